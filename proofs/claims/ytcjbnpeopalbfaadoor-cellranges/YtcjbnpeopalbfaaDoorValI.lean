/- The walk of package value's Cut. -/
import Derived.Test.YtcjbnpeopalbfaaDoorValH
namespace Go.Proofs.YtcjbnpeopalbfaaDoor
open Go.RowKit

theorem cutRes_parts (o : Option (Vl × List UInt8)) : ∃ (k n : Int) (t r : List UInt8) (c : Int), cutRes o = .tuple #[.agg #[.int .i64 k, .int .i64 n, .string ⟨t.toArray⟩], .string ⟨r.toArray⟩, .int .i64 c] := by
  cases o with
  | none => exact ⟨0, 0, [], [], 4, rfl⟩
  | some x => obtain ⟨⟨k, n, t⟩, r⟩ := x; exact ⟨k, n, t, r, 0, rfl⟩

set_option maxRecDepth 100000 in
set_option maxHeartbeats 3200000 in
theorem cut_any (s : List UInt8) (hs : s.length ≤ 1000000) (w : World) :
    Calls Tryd.prog 60 #[.string ⟨s.toArray⟩] w fun e w' => e = .returned (cutRes (cutV s)) ∧ Below w.heap.size w w' := by
  have hA := At.fresh w 23 #[.int .i64 0, .int .i64 0, .string ⟨#[]⟩]
  have hb := below_box w (.cells #[.int .i64 0, .int .i64 0, .string ⟨#[]⟩] 23)
  cases s with
  | nil =>
    go_enter Tryd.func60, Tryd.ntmps60
    go_wp2_with fail
    refine (noKey_any _).mono ?_
    rintro e w1 ⟨rfl, b1⟩
    rw [cutRes_none]
    obtain ⟨hA1, hb1⟩ := boxed 0 0 [] b1
    have d0 : w1.cell? ⟨w.heap.size, 0, none⟩ = some (.int .i64 0) := At.cell hA1 0
    have d1 : w1.cell? ⟨w.heap.size, 1, none⟩ = some (.int .i64 0) := At.cell hA1 1
    have d2 : w1.cell? ⟨w.heap.size, 2, none⟩ = some (.string ⟨#[]⟩) := At.cell hA1 2
    have f0 := At.unfrozen hA1 0
    have f1 := At.unfrozen hA1 1
    have f2 := At.unfrozen hA1 2
    go_wp2_with fail
    refine bodyPost_ret (v := cutRes (cutV [])) (by simp [results, Tryd.results60, go_sem, cutV, cutRes, Vl.val, d0, d1, d2]) rfl ⟨rfl, below_put3 hb1 _ _ _⟩
  | cons a r =>
    obtain ⟨z, hz⟩ : ∃ z, a :: r = z := ⟨_, rfl⟩
    have hzl : z.length = r.length + 1 := by rw [← hz]; rfl
    have hrl : r.length ≤ 999999 := by simp at hs; omega
    have hx1 : (ByteArray.mk z.toArray).extract 1 (r.length + 1) = ⟨r.toArray⟩ := by rw [← hzl, extract_drop, ← hz]; rfl
    have hix := fun i h w => run_index_list (P := Tryd.prog) 9 z i 0 a.toNat Tryd.underlying9 h (by omega) (by rw [← hz]; rfl) w
    have hz0 : z.isEmpty = false := by rw [← hz]; rfl
    have hz1 : (1 : Int) ≤ z.length := by omega
    have HZ := Lib.hid hz
    rw [hz]
    clear hs hz
    by_cases h0 : a.toNat = 0
    · have ha : a = 0 := UInt8.toNat_inj.1 h0
      have HC : Hid (cutV z = some (⟨0, 0, []⟩, r)) := by show _ = _; rw [← HZ.out, ha]; rfl
      go_enter Tryd.func60, Tryd.ntmps60
      go_wp2_with fail
      go_quiet (fail)
      go_wp2_with fail
      refine bodyPost_ret (v := cutRes (cutV z)) (by rw [HC.out]; simp [results, Tryd.results60, go_sem, cutRes, Vl.val]) rfl ⟨rfl, below_put3 (below_nq hb _) _ _ _⟩
    by_cases h12 : a.toNat = 1 ∨ a.toNat = 2
    · have hk : ((a.toNat : Int) = 1 ∨ (a.toNat : Int) = 2) := by omega
      have hC := fun w => cutNumber_any a.toNat hk r (by unfold maxLen; omega) w
      have e : ((a.toNat : Int).toNat.toUInt8 :: r) = z := by rw [← HZ.out]; simp
      rw [e] at hC
      obtain ⟨k, n, t, q, c, hR⟩ := cutRes_parts (cutV z)
      have HC := Lib.hid hC
      have HR := Lib.hid hR
      clear e hC hR
      rcases h12 with h1 | h1
      all_goals
        rw [h1] at HC hix
        clear hk
        go_enter Tryd.func60, Tryd.ntmps60
        go_wp2_with fail
        go_quiet (fail)
        go_wp2_with fail
        refine (HC.out _).mono ?_
        rintro e w1 ⟨rfl, b1⟩
        rw [HR.out]
        have hA0 : At ((w.alloc (.cells #[.int .i64 0, .int .i64 0, .string ⟨#[]⟩] 23)).drewN nq) w.heap.size 23 #[.int .i64 0, .int .i64 0, .string ⟨#[]⟩] := hA
        have hA1 := hA0.below b1 hA0.lt
        have hb1 := below_in (below_nq hb nq) b1
        have d0 : w1.cell? ⟨w.heap.size, 0, none⟩ = some (.int .i64 0) := At.cell hA1 0
        have d1 : w1.cell? ⟨w.heap.size, 1, none⟩ = some (.int .i64 0) := At.cell hA1 1
        have d2 : w1.cell? ⟨w.heap.size, 2, none⟩ = some (.string ⟨#[]⟩) := At.cell hA1 2
        have f0 := At.unfrozen hA1 0
        have f1 := At.unfrozen hA1 1
        have f2 := At.unfrozen hA1 2
        go_wp2_with fail
        refine bodyPost_ret (v := cutRes (cutV z)) (by rw [HR.out]; simp [results, Tryd.results60, go_sem, d0, d1, d2]) rfl ⟨rfl, below_put3 hb1 _ _ _⟩
    by_cases h3 : a.toNat = 3
    · have ha : a = 3 := UInt8.toNat_inj.1 h3
      have hC := fun w => cutText_any r (by omega) w
      have e : ((3 : UInt8) :: r) = z := by rw [← HZ.out, ha]
      rw [e] at hC
      obtain ⟨k, n, t, q, c, hR⟩ := cutRes_parts (cutV z)
      have HC := Lib.hid hC
      have HR := Lib.hid hR
      clear e hC hR
      go_enter Tryd.func60, Tryd.ntmps60
      go_wp2_with fail
      go_quiet (fail)
      go_wp2_with fail
      refine (HC.out _).mono ?_
      rintro e w1 ⟨rfl, b1⟩
      rw [HR.out]
      have hA0 : At ((w.alloc (.cells #[.int .i64 0, .int .i64 0, .string ⟨#[]⟩] 23)).drewN nq) w.heap.size 23 #[.int .i64 0, .int .i64 0, .string ⟨#[]⟩] := hA
      have hA1 := hA0.below b1 hA0.lt
      have hb1 := below_in (below_nq hb nq) b1
      have d0 : w1.cell? ⟨w.heap.size, 0, none⟩ = some (.int .i64 0) := At.cell hA1 0
      have d1 : w1.cell? ⟨w.heap.size, 1, none⟩ = some (.int .i64 0) := At.cell hA1 1
      have d2 : w1.cell? ⟨w.heap.size, 2, none⟩ = some (.string ⟨#[]⟩) := At.cell hA1 2
      have f0 := At.unfrozen hA1 0
      have f1 := At.unfrozen hA1 1
      have f2 := At.unfrozen hA1 2
      go_wp2_with fail
      refine bodyPost_ret (v := cutRes (cutV z)) (by rw [HR.out]; simp [results, Tryd.results60, go_sem, d0, d1, d2]) rfl ⟨rfl, below_put3 hb1 _ _ _⟩
    · have HC : Hid (cutV z = none) := by
        show _ = _
        rw [← HZ.out, cutV, if_neg (fun e => h0 (by rw [e]; rfl)), if_neg (fun e => h12 (.inl (by rw [e]; rfl))), if_neg (fun e => h12 (.inr (by rw [e]; rfl))), if_neg (fun e => h3 (by rw [e]; rfl))]
      have hw : wrap64 (a.toNat : Int) = a.toNat := by unfold wrap64; have := a.toNat_lt; omega
      have t0 : ((a.toNat : Int) == 0) = false := by simp; omega
      have t1 : ((a.toNat : Int) == 1) = false := by simp; omega
      have t2 : ((a.toNat : Int) == 2) = false := by simp; omega
      have t3 : ((a.toNat : Int) == 3) = false := by simp; omega
      go_enter Tryd.func60, Tryd.ntmps60
      go_wp2_with fail
      go_quiet (fail)
      go_wp2_with fail
      refine (noKey_any _).mono ?_
      rintro e w1 ⟨rfl, b1⟩
      rw [cutRes_none]
      have hA0 : At ((w.alloc (.cells #[.int .i64 0, .int .i64 0, .string ⟨#[]⟩] 23)).drewN nq) w.heap.size 23 #[.int .i64 0, .int .i64 0, .string ⟨#[]⟩] := hA
      have hA1 := hA0.below b1 hA0.lt
      have hb1 := below_in (below_nq hb nq) b1
      have d0 : w1.cell? ⟨w.heap.size, 0, none⟩ = some (.int .i64 0) := At.cell hA1 0
      have d1 : w1.cell? ⟨w.heap.size, 1, none⟩ = some (.int .i64 0) := At.cell hA1 1
      have d2 : w1.cell? ⟨w.heap.size, 2, none⟩ = some (.string ⟨#[]⟩) := At.cell hA1 2
      have f0 := At.unfrozen hA1 0
      have f1 := At.unfrozen hA1 1
      have f2 := At.unfrozen hA1 2
      go_wp2_with fail
      refine bodyPost_ret (v := cutRes (cutV z)) (by rw [HC.out]; simp [results, Tryd.results60, go_sem, cutRes, Vl.val, d0, d1, d2]) rfl ⟨rfl, below_put3 hb1 _ _ _⟩
end Go.Proofs.YtcjbnpeopalbfaaDoor
