/- The walks of package value's noKey, Int, cutNumber. -/
import Derived.Test.YtcjbnpeopalbfaaDoorValE
namespace Go.Proofs.YtcjbnpeopalbfaaDoor
open Go.RowKit

def cutRes : Option (Vl × List UInt8) → Value
  | some (v, r) => .tuple #[v.val, .string ⟨r.toArray⟩, .int .i64 0]
  | none => .tuple #[(Vl.mk 0 0 []).val, .string ⟨#[]⟩, .int .i64 4]
theorem cutRes_none : cutRes none = .tuple #[.agg #[.int .i64 0, .int .i64 0, .string ⟨#[]⟩], .string ⟨#[]⟩, .int .i64 4] := rfl
theorem cutRes_some (k n : Int) (t r : List UInt8) : cutRes (some (⟨k, n, t⟩, r)) = .tuple #[.agg #[.int .i64 k, .int .i64 n, .string ⟨t.toArray⟩], .string ⟨r.toArray⟩, .int .i64 0] := rfl

set_option maxHeartbeats 400000 in
theorem noKey_any (w : World) :
    Calls Tryd.prog 69 #[] w fun e w' => e = .returned (cutRes none) ∧ Below w.heap.size w w' := by
  go_enter Tryd.func69, Tryd.ntmps69
  go_wp2
  refine bodyPost_ret (v := cutRes none) (by simp [results, Tryd.results69, go_sem, cutRes, Vl.val]) rfl ⟨rfl, below_box _ _⟩

set_option maxHeartbeats 400000 in
theorem vint_any (n : Int) (w : World) :
    Calls Tryd.prog 78 #[.int .i64 n] w fun e w' => e = .returned (Vl.mk 1 n []).val ∧ Below w.heap.size w w' := by
  go_enter Tryd.func78, Tryd.ntmps78
  go_wp2
  refine bodyPost_ret (v := (Vl.mk 1 n []).val) (by simp [results, Tryd.results78, go_sem, Vl.val]) rfl ⟨rfl, below_box _ _⟩

theorem below_put3 {B : Nat} {w w1 : World} (h : Below B w w1) (x y z : Value) : Below B w (((w1.setCell ⟨B, 0, none⟩ x).setCell ⟨B, 1, none⟩ y).setCell ⟨B, 2, none⟩ z) :=
  ((h.setCell (p := ⟨B, 0, none⟩) (Nat.le_refl _) x).setCell (p := ⟨B, 1, none⟩) (Nat.le_refl _) y).setCell (p := ⟨B, 2, none⟩) (Nat.le_refl _) z
theorem or_byte (acc b : Nat) (ha : acc < 72057594037927936) (hb : b < 256) : bits .or .u64 (IntKind.u64.wrap ((acc : Int) * 256)) (IntKind.u64.wrap (b : Int)) = ((acc * 256 + b : Nat) : Int) := by
  have e2 : IntKind.u64.wrap (b : Int) = (b : Int) := by rw [IntKind.wrap_u64]; omega
  rw [e2]
  have e : IntKind.u64.wrap ((acc : Int) * 256) = ((acc * 256 : Nat) : Int) := by rw [IntKind.wrap_u64]; omega
  rw [e, u64_or _ _ (by omega) (by omega) (by omega) (by omega)]
  simp only [Int.toNat_natCast]
  rw [Nat.mul_comm, nat_join 8 _ _ (by omega) (by omega)]

set_option maxRecDepth 100000 in
set_option maxHeartbeats 1600000 in
theorem cutNumber_any (k : Int) (hk : k = 1 ∨ k = 2) (r : List UInt8) (hr : r.length ≤ maxLen) (w : World) :
    Calls Tryd.prog 70 #[.int .i64 k, .string ⟨r.toArray⟩] w fun e w' => e = .returned (cutRes (cutV (k.toNat.toUInt8 :: r))) ∧ Below w.heap.size w w' := by
  unfold maxLen at hr
  by_cases h8 : r.length < 8
  · have hC : cutV (k.toNat.toUInt8 :: r) = none := by rcases hk with rfl | rfl <;> simp [cutV, h8]
    rw [hC]
    have hA := At.fresh w 23 #[.int .i64 0, .int .i64 0, .string ⟨#[]⟩]
    have hb := below_box w (.cells #[.int .i64 0, .int .i64 0, .string ⟨#[]⟩] 23)
    clear hC
    go_enter Tryd.func70, Tryd.ntmps70
    go_wp2_with fail
    refine (noKey_any _).mono ?_
    rintro e w1 ⟨rfl, b1⟩
    rw [cutRes_none]
    have hA1 := hA.below b1 hA.lt
    have hb1 := below_in hb b1
    have c0 : w1.cell? ⟨w.heap.size, 0, none⟩ = some (.int .i64 0) := At.cell hA1 0
    have c1 : w1.cell? ⟨w.heap.size, 1, none⟩ = some (.int .i64 0) := At.cell hA1 1
    have c2 : w1.cell? ⟨w.heap.size, 2, none⟩ = some (.string ⟨#[]⟩) := At.cell hA1 2
    have f0 := At.unfrozen hA1 0
    have f1 := At.unfrozen hA1 1
    have f2 := At.unfrozen hA1 2
    go_wp2_with fail
    refine bodyPost_ret (v := cutRes none) (by simp [results, Tryd.results70, go_sem, cutRes, Vl.val, c0, c1, c2]) rfl ⟨rfl, below_put3 hb1 _ _ _⟩
  · have hx0 : ofBig ([] : List UInt8) = 0 := rfl
    have hbox := below_box w (.cells #[.int .i64 0, .int .i64 0, .string ⟨#[]⟩] 23)
    have hA := At.fresh w 23 #[.int .i64 0, .int .i64 0, .string ⟨#[]⟩]
    have hr8 : ¬ (r.length : Int) < 8 := by omega
    go_enter Tryd.func70, Tryd.ntmps70
    go_wp2_with fail
    go_loop [7, 19] (fun u i => ∃ j acc : Nat, j ≤ 8 ∧ i = .int .i64 j ∧ u = .int .u64 acc ∧ acc = ofBig (r.take j)) (fun _ i => 8 - (intOf i).toNat)
    case atStart => exact ⟨0, 0, by omega, rfl, rfl, rfl⟩
    case round =>
      obtain ⟨j, acc, hj, rfl, rfl, hacc⟩ := hrel
      by_cases hlt : j < 8
      · have hjr : j < r.length := by omega
        have hsm : acc < 72057594037927936 := by
          have := ofBig_lt (r.take j)
          rw [← hacc, List.length_take, Nat.min_eq_left (by omega)] at this
          have h2 : 256 ^ j ≤ 256 ^ 7 := Nat.pow_le_pow_right (by omega) (by omega)
          omega
        obtain ⟨c, hc⟩ : ∃ c, r.getD j 0 = c := ⟨_, rfl⟩
        have hix := fun i h w => run_index_list (P := Tryd.prog) 9 r i j c.toNat Tryd.underlying9 h hjr (by rw [hc]) w
        have hor := or_byte acc c.toNat hsm c.toNat_lt
        have hnext : acc * 256 + c.toNat = ofBig (r.take (j + 1)) := by rw [take_more r j hjr, hc, ofBig_snoc, hacc]
        have HN := Lib.hid hnext
        clear hnext hacc hc hsm
        go_wp2
        exact ⟨⟨j + 1, acc * 256 + c.toNat, by omega, by go_num, by first | rfl | (simp), HN.out⟩, by simp [intOf]; omega⟩
      · obtain rfl : j = 8 := by omega
        have hl := ofBig8_lt h8
        rw [← hacc] at hl
        have hC1 : cutV (1 :: r) = some (⟨1, (acc : Int) - 9223372036854775808, []⟩, r.drop 8) := by rw [hacc]; simp [cutV, h8]
        have hC2 : cutV (2 :: r) = if backGood acc = true then some (⟨2, backI acc, []⟩, r.drop 8) else none := by rw [hacc]; simp [cutV, h8]
        have HC1 := Lib.hid hC1
        have HC2 := Lib.hid hC2
        have hed := extract_drop r 8
        have hr8' : (8 : Int) ≤ r.length := by omega
        clear hC1 hC2 hacc
        rcases hk with rfl | rfl
        · have hx := xor_top acc hl
          obtain ⟨x, hx2⟩ : ∃ x : Nat, (if acc < 9223372036854775808 then acc + 9223372036854775808 else acc - 9223372036854775808 : Nat) = x := ⟨_, rfl⟩
          rw [hx2] at hx
          have hwr : wrap64 (x : Int) = (acc : Int) - 9223372036854775808 := by
            unfold wrap64
            split at hx2 <;> omega
          have hxl : x < 18446744073709551616 := by split at hx2 <;> omega
          clear hx2
          go_wp2_with fail
          refine (vint_any _ _).mono ?_
          rintro e w1 ⟨rfl, b1⟩
          unfold Vl.val
          obtain ⟨hA1, hb1⟩ := boxed 0 0 [] b1
          have c0 : w1.cell? ⟨w.heap.size, 0, none⟩ = some (.int .i64 0) := At.cell hA1 0
          have c1 : w1.cell? ⟨w.heap.size, 1, none⟩ = some (.int .i64 0) := At.cell hA1 1
          have c2 : w1.cell? ⟨w.heap.size, 2, none⟩ = some (.string ⟨#[]⟩) := At.cell hA1 2
          have f0 := At.unfrozen hA1 0
          have f1 := At.unfrozen hA1 1
          have f2 := At.unfrozen hA1 2
          go_wp2_with fail
          refine bodyPost_ret (v := cutRes (cutV (1 :: r))) (by rw [HC1.out]; simp [results, Tryd.results70, go_sem, cutRes, Vl.val, c0, c1, c2]) rfl ⟨rfl, below_put3 hb1 _ _ _⟩
        · go_wp2_with fail
          refine (back_any _ hl _).mono ?_
          rintro e w' ⟨rfl, rfl⟩
          cases hg : backGood acc with
          | true =>
            have hR : backRes acc = .tuple #[.int .i64 (backI acc), .int .i64 0] := by unfold backRes; rw [hg]; rfl
            rw [hR]
            clear hR
            go_wp2_with fail
            refine bodyPost_ret (v := cutRes (cutV (2 :: r))) (by rw [HC2.out, if_pos hg]; simp [results, Tryd.results70, go_sem, cutRes, Vl.val]) rfl ⟨rfl, below_box _ _⟩
          | false =>
            have hR : backRes acc = .tuple #[.int .i64 0, .int .i64 4] := by unfold backRes; rw [hg]; rfl
            rw [hR]
            clear hR
            go_wp2_with fail
            refine (noKey_any _).mono ?_
            rintro e w1 ⟨rfl, b1⟩
            rw [cutRes_none]
            obtain ⟨hA1, hb1⟩ := boxed 0 0 [] b1
            have c0 : w1.cell? ⟨w.heap.size, 0, none⟩ = some (.int .i64 0) := At.cell hA1 0
            have c1 : w1.cell? ⟨w.heap.size, 1, none⟩ = some (.int .i64 0) := At.cell hA1 1
            have c2 : w1.cell? ⟨w.heap.size, 2, none⟩ = some (.string ⟨#[]⟩) := At.cell hA1 2
            have f0 := At.unfrozen hA1 0
            have f1 := At.unfrozen hA1 1
            have f2 := At.unfrozen hA1 2
            go_wp2_with fail
            refine bodyPost_ret (v := cutRes (cutV (2 :: r))) (by rw [HC2.out, hg]; simp [results, Tryd.results70, go_sem, cutRes, Vl.val, c0, c1, c2]) rfl ⟨rfl, below_put3 hb1 _ _ _⟩
end Go.Proofs.YtcjbnpeopalbfaaDoor
