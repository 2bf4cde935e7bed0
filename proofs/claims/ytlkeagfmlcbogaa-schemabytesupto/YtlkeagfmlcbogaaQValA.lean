/- The walks of Good (package value, and the reference of layer 3), of numberKey and of the reference's eight. -/
import Derived.Test.YtlkeagfmlcbogaaQValM
import Derived.Test.YtlkeagfmlcbogaaQEscM
import Derived.Test.YtlkeagfmlcbogaaQInfo
import Derived.Deep.QuietTactic
import Derived.Deep.LoopGhost
import Derived.BigQuiet
namespace Go.Proofs.Ytlkeagfmlcbogaa
open Go.RowKit

theorem ret_s {a b : List UInt8} (h : a = b) : Ending.returned (.string ⟨a.toArray⟩) = .returned (.string ⟨b.toArray⟩) := by rw [h]
theorem below_in {w w1 w2 : World} (h : Below w.heap.size w w1) (k : Below w1.heap.size w1 w2) : Below w.heap.size w w2 := h.trans (k.mono h.size)
theorem below_nq {B : Nat} {x y : World} (h : Below B x y) (n : Nat) : Below B x (y.drewN n) := ⟨h.os, h.tape, h.output, h.size, h.block⟩
theorem below_box (w : World) (o : Obj) : Below w.heap.size w (w.alloc o) := (Below.refl _ _).alloc (Nat.le_refl _) _

set_option maxRecDepth 100000 in
set_option maxHeartbeats 1600000 in
theorem vgood_any (v : Vl) (hv : v.Ok) (w : World) :
    Calls Try.prog 92 #[v.val] w fun e w' => e = .returned (.bool (goodV v)) ∧ Below w.heap.size w w' := by
  obtain ⟨k, n, t⟩ := v
  have hG : Hid (goodV ⟨k, n, t⟩ = decide ((k = 0 ∧ n = 0 ∧ t = []) ∨ (k = 1 ∧ t = []) ∨ (k = 2 ∧ t = [] ∧ canonI (wordOf n) = n) ∨ (k = 3 ∧ n = 0 ∧ t.length ≤ 24))) := rfl
  have hb := below_box w (.cells #[.int .i64 k, .int .i64 n, .string ⟨t.toArray⟩] 43)
  have hm : t.length ≤ 9223372036854775807 := by have := hv.text; unfold maxLen at this; simp at this; omega
  show Calls _ _ #[.agg #[.int .i64 k, .int .i64 n, .string ⟨t.toArray⟩]] w _
  clear hv
  by_cases h0 : k = 0
  · subst h0
    cases hn : (n == 0) <;> cases t
    all_goals
      go_enter Try.func92, Try.ntmps92
      go_wp2
      go_ret
      exact ⟨ret_b (by rw [hG.out]; simp_all <;> omega), hb⟩
  by_cases h1 : k = 1
  · subst h1
    cases t
    all_goals
      go_enter Try.func92, Try.ntmps92
      go_wp2
      go_ret
      exact ⟨ret_b (by rw [hG.out]; simp), hb⟩
  by_cases h2 : k = 2
  · subst h2
    cases t
    all_goals
      go_enter Try.func92, Try.ntmps92
      go_wp2_with (go_at_call 95; refine (good_any _ _).mono ?_; rintro e w' ⟨rfl, rfl⟩)
      go_ret
      exact ⟨ret_b (by rw [hG.out]; simp [eq_comm, Bool.beq_eq_decide_eq]), hb⟩
  by_cases h3 : k = 3
  · subst h3
    by_cases hl : t.length ≤ 24
    all_goals
      cases hn : (n == 0)
      all_goals
        go_enter Try.func92, Try.ntmps92
        go_wp2
        go_ret
        exact ⟨ret_b (by rw [hG.out]; simp_all <;> omega), hb⟩
  · go_enter Try.func92, Try.ntmps92
    go_wp2
    go_ret
    exact ⟨ret_b (by rw [hG.out]; simp_all <;> omega), hb⟩

set_option maxRecDepth 100000 in
set_option maxHeartbeats 1600000 in
theorem rgood_any (v : Vl) (hv : v.Ok) (w : World) :
    Calls Try.prog 59 #[v.val] w fun e w' => e = .returned (.bool (goodV v)) ∧ Below w.heap.size w w' := by
  obtain ⟨k, n, t⟩ := v
  have hG : Hid (goodV ⟨k, n, t⟩ = decide ((k = 0 ∧ n = 0 ∧ t = []) ∨ (k = 1 ∧ t = []) ∨ (k = 2 ∧ t = [] ∧ canonI (wordOf n) = n) ∨ (k = 3 ∧ n = 0 ∧ t.length ≤ 24))) := rfl
  have hb := below_box w (.cells #[.int .i64 k, .int .i64 n, .string ⟨t.toArray⟩] 43)
  have hm : t.length ≤ 9223372036854775807 := by have := hv.text; unfold maxLen at this; simp at this; omega
  show Calls _ _ #[.agg #[.int .i64 k, .int .i64 n, .string ⟨t.toArray⟩]] w _
  clear hv
  by_cases h0 : k = 0
  · subst h0
    cases hn : (n == 0) <;> cases t
    all_goals
      go_enter Try.func59, Try.ntmps59
      go_wp2
      go_ret
      exact ⟨ret_b (by rw [hG.out]; simp_all <;> omega), hb⟩
  by_cases h1 : k = 1
  · subst h1
    cases t
    all_goals
      go_enter Try.func59, Try.ntmps59
      go_wp2
      go_ret
      exact ⟨ret_b (by rw [hG.out]; simp), hb⟩
  by_cases h2 : k = 2
  · subst h2
    cases t
    all_goals
      go_enter Try.func59, Try.ntmps59
      go_wp2_with fail
      go_quiet (first | (go_at_call 74; exact Calls.quiet_of_same ((refOf_any _ _).mono fun _ _ h => ⟨h.1, h.2.symm⟩)) | (go_at_call 73; exact Calls.quiet_of_same ((refKept_any _ _).mono fun _ _ h => ⟨h.1, h.2.symm⟩)))
      go_wp2_with fail
      go_ret
      exact ⟨ret_b (by rw [hG.out]; simp <;> rfl), below_nq hb _⟩
  by_cases h3 : k = 3
  · subst h3
    by_cases hl : t.length ≤ 24
    all_goals
      cases hn : (n == 0)
      all_goals
        go_enter Try.func59, Try.ntmps59
        go_wp2
        go_ret
        exact ⟨ret_b (by rw [hG.out]; simp_all <;> omega), hb⟩
  · go_enter Try.func59, Try.ntmps59
    go_wp2
    go_ret
    exact ⟨ret_b (by rw [hG.out]; simp_all <;> omega), hb⟩
end Go.Proofs.Ytlkeagfmlcbogaa
