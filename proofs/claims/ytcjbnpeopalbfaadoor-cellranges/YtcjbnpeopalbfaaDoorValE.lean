/- The walks of the reference's Less and Compare (layer 3), of Text, Float and Show at one half, and of the laws' first test. -/
import Derived.Test.YtcjbnpeopalbfaaDoorValD
namespace Go.Proofs.YtcjbnpeopalbfaaDoor
open Go.RowKit
open Go.Op (bytesLess)

theorem below_box2 (w : World) (o p : Obj) : Below w.heap.size w ((w.alloc o).alloc p) := (below_box w o).alloc (by simp) _

set_option maxRecDepth 100000 in
set_option maxHeartbeats 1600000 in
theorem less_any (a b : Vl) (w : World) :
    Calls Tryd.prog 36 #[a.val, b.val] w fun e w' => e = .returned (.bool (lessV a b)) ∧ Below w.heap.size w w' := by
  obtain ⟨k, n, t⟩ := a
  obtain ⟨j, m, s⟩ := b
  have hL : Hid (lessV ⟨k, n, t⟩ ⟨j, m, s⟩ = if k ≠ j then decide (k < j) else if k = 1 then decide (n < m) else if k = 2 then decide (cmpI (keyI n) (keyI m) < 0) else bytesLess t s) := rfl
  have hb := below_box2 w (.cells #[.int .i64 k, .int .i64 n, .string ⟨t.toArray⟩] 23) (.cells #[.int .i64 j, .int .i64 m, .string ⟨s.toArray⟩] 23)
  show Calls _ _ #[.agg #[.int .i64 k, .int .i64 n, .string ⟨t.toArray⟩], .agg #[.int .i64 j, .int .i64 m, .string ⟨s.toArray⟩]] w _
  by_cases h : k = j
  · subst h
    by_cases h1 : k = 1
    · subst h1
      go_enter Tryd.func36, Tryd.ntmps36
      go_wp2
      go_ret
      exact ⟨ret_b (by rw [hL.out]; simp), hb⟩
    by_cases h2 : k = 2
    · subst h2
      go_enter Tryd.func36, Tryd.ntmps36
      go_wp2_with (go_at_call 50; refine (refCompare_any _ _ _).mono ?_; rintro e w' ⟨rfl, rfl⟩)
      go_ret
      exact ⟨ret_b (by rw [hL.out]; simp), hb⟩
    · go_enter Tryd.func36, Tryd.ntmps36
      go_wp2
      go_ret
      exact ⟨ret_b (by rw [hL.out]; simp [h1, h2]; try rfl), hb⟩
  · have h' : (k != j) = true := by simpa using h
    go_enter Tryd.func36, Tryd.ntmps36
    go_wp2
    go_ret
    exact ⟨ret_b (by rw [hL.out]; simp [h]), hb⟩

set_option maxHeartbeats 800000 in
theorem rcompare_any (a b : Vl) (w : World) :
    Calls Tryd.prog 26 #[a.val, b.val] w fun e w' => e = .returned (.int .i64 (cmpV a b)) ∧ Below w.heap.size w w' := by
  have hC : Hid (cmpV a b = if lessV a b = true then -1 else if lessV b a = true then 1 else 0) := rfl
  have hl := less_any a b
  have hr := less_any b a
  obtain ⟨k, n, t⟩ := a
  obtain ⟨j, m, s⟩ := b
  have hb := below_box2 w (.cells #[.int .i64 k, .int .i64 n, .string ⟨t.toArray⟩] 23) (.cells #[.int .i64 j, .int .i64 m, .string ⟨s.toArray⟩] 23)
  have hA1 : At ((w.alloc (.cells #[.int .i64 k, .int .i64 n, .string ⟨t.toArray⟩] 23)).alloc (.cells #[.int .i64 j, .int .i64 m, .string ⟨s.toArray⟩] 23)) w.heap.size 23 #[.int .i64 k, .int .i64 n, .string ⟨t.toArray⟩] := (At.fresh w _ _).alloc _
  have hA2 : At ((w.alloc (.cells #[.int .i64 k, .int .i64 n, .string ⟨t.toArray⟩] 23)).alloc (.cells #[.int .i64 j, .int .i64 m, .string ⟨s.toArray⟩] 23)) (w.heap.size + 1) 23 #[.int .i64 j, .int .i64 m, .string ⟨s.toArray⟩] := by
    have := At.fresh (w.alloc (.cells #[.int .i64 k, .int .i64 n, .string ⟨t.toArray⟩] 23)) 23 #[.int .i64 j, .int .i64 m, .string ⟨s.toArray⟩]
    simpa using this
  show Calls _ _ #[.agg #[.int .i64 k, .int .i64 n, .string ⟨t.toArray⟩], .agg #[.int .i64 j, .int .i64 m, .string ⟨s.toArray⟩]] w _
  go_enter Tryd.func26, Tryd.ntmps26
  go_wp2_with fail
  refine (hl _).mono ?_
  rintro e w1 ⟨rfl, b1⟩
  have hb1 := below_in hb b1
  cases h1 : lessV ⟨k, n, t⟩ ⟨j, m, s⟩ with
  | true =>
    go_wp2_with fail
    go_ret
    exact ⟨ret_i (by rw [hC.out, h1]; rfl), hb1⟩
  | false =>
    have hB1 := hA1.below b1 hA1.lt
    have hB2 := hA2.below b1 hA2.lt
    have c0 : w1.cell? ⟨w.heap.size, 0, none⟩ = some (.int .i64 k) := At.cell hB1 0
    have c1 : w1.cell? ⟨w.heap.size, 1, none⟩ = some (.int .i64 n) := At.cell hB1 1
    have c2 : w1.cell? ⟨w.heap.size, 2, none⟩ = some (.string ⟨t.toArray⟩) := At.cell hB1 2
    have d0 : w1.cell? ⟨w.heap.size + 1, 0, none⟩ = some (.int .i64 j) := At.cell hB2 0
    have d1 : w1.cell? ⟨w.heap.size + 1, 1, none⟩ = some (.int .i64 m) := At.cell hB2 1
    have d2 : w1.cell? ⟨w.heap.size + 1, 2, none⟩ = some (.string ⟨s.toArray⟩) := At.cell hB2 2
    go_wp2_with fail
    refine (hr _).mono ?_
    rintro e w2 ⟨rfl, b2⟩
    have hb2 := below_in hb1 b2
    cases h2 : lessV ⟨j, m, s⟩ ⟨k, n, t⟩
    all_goals
      go_wp2_with fail
      go_ret
      exact ⟨ret_i (by rw [hC.out, h1, h2]; rfl), hb2⟩

set_option maxHeartbeats 400000 in
theorem vtext_any (t : List UInt8) (w : World) :
    Calls Tryd.prog 44 #[.string ⟨t.toArray⟩] w fun e w' => e = .returned (Vl.mk 3 0 t).val ∧ Below w.heap.size w w' := by
  go_enter Tryd.func44, Tryd.ntmps44
  go_wp2
  refine bodyPost_ret (v := (Vl.mk 3 0 t).val) (by simp [results, Tryd.results44, go_sem, Vl.val]) rfl ⟨rfl, below_box _ _⟩

theorem ok_a : (Vl.mk 3 0 [97]).Ok := ⟨by unfold I64; decide, by unfold I64; decide, by unfold maxLen; decide⟩
theorem ok_0 : (Vl.mk 0 0 []).Ok := ⟨by unfold I64; decide, by unfold I64; decide, by unfold maxLen; decide⟩
theorem key_a : keyV ⟨3, 0, [97]⟩ = [3, 97, 0, 0] := by decide
theorem good_0 : goodV ⟨0, 0, []⟩ = true := by decide

end Go.Proofs.YtcjbnpeopalbfaaDoor
