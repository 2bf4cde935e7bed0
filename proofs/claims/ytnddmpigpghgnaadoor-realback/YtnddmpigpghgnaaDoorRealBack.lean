/- The walk of the law RealBack. -/
import Derived.Test.YtnddmpigpghgnaaDoorFmtE
namespace Go.Proofs.YtnddmpigpghgnaaDoor
open Go.RowKit

theorem ix0 (a b c d : Value) (w : World) : (Instr.index 36 (.agg #[a, b, c, d]) (.int .i64 0)).run Tryd.prog w = .ok a w := by kernel_rfl
theorem ix1 (a b c d : Value) (w : World) : (Instr.index 36 (.agg #[a, b, c, d]) (.int .i64 1)).run Tryd.prog w = .ok b w := by kernel_rfl
theorem ix2 (a b c d : Value) (w : World) : (Instr.index 36 (.agg #[a, b, c, d]) (.int .i64 2)).run Tryd.prog w = .ok c w := by kernel_rfl
theorem ix3 (a b c d : Value) (w : World) : (Instr.index 36 (.agg #[a, b, c, d]) (.int .i64 3)).run Tryd.prog w = .ok d w := by kernel_rfl

theorem tests {k : Nat} (h : k < 18446744073709551616) (hg : backGood k = false) (x : Int) : (canonI (wordOf x) == x) = false ∨ ((canonI (wordOf x) == x) = true ∧ ((keyI x : Int) == (k : Int)) = false) := by
  cases h1 : canonI (wordOf x) == x with
  | false => exact .inl rfl
  | true =>
    refine .inr ⟨rfl, ?_⟩
    cases h2 : (keyI x : Int) == (k : Int) with
    | false => rfl
    | true => exact (back_none h hg x (by simpa using h1) (by have := beq_iff_eq.1 h2; omega)).elim

set_option maxRecDepth 100000 in
set_option maxHeartbeats 3200000 in
theorem realBack_main (k : Nat) (w : World) (ht : HalfTabs w) (hl : k < 18446744073709551616) :
    Calls Tryd.prog 5 #[.int .u64 k] w fun e w' => e = .returned (.bool true) ∧ Below w.heap.size w w' := by
  cases hg : backGood k
  · have hr : backRes k = .tuple #[.int .i64 0, .int .i64 4] := by unfold backRes; rw [hg]; rfl
    have hs : IntKind.u64.signed = false := rfl
    have ho := not64 hl
    generalize 18446744073709551615 - k = m1 at ho
    obtain ⟨m2, e2⟩ : ∃ m2 : Nat, IntKind.u64.wrap ((k : Int) - 9223372036854775808) = (m2 : Int) := ⟨(IntKind.u64.wrap ((k : Int) - 9223372036854775808)).toNat, by rw [IntKind.wrap_u64]; omega⟩
    obtain ⟨m3, e3⟩ : ∃ m3 : Nat, IntKind.u64.wrap ((k : Int) + 9223372036854775808) = (m3 : Int) := ⟨(IntKind.u64.wrap ((k : Int) + 9223372036854775808)).toNat, by rw [IntKind.wrap_u64]; omega⟩
    have T := Lib.hid (tests hl hg)
    clear hg
    have i0 := ix0
    have i1 := ix1
    have i2 := ix2
    have i3 := ix3
    go_enter Tryd.func5, Tryd.ntmps5
    go_wp2_with fail
    refine (alive_any w ht).mono ?_
    rintro e w1 ⟨rfl, b1⟩
    go_wp2_with (go_at_call 16; refine (back_any _ hl _).mono ?_; rintro e w' ⟨rfl, rfl⟩)
    go_loop [24] (fun t => ∃ j : Nat, j ≤ 4 ∧ t = .int .i64 j) (fun t => 4 - (intOf t).toNat)
    case atStart => exact ⟨0, by omega, rfl⟩
    case round =>
    obtain ⟨j, hj, rfl⟩ := hrel
    obtain rfl | rfl | rfl | rfl | rfl : j = 0 ∨ j = 1 ∨ j = 2 ∨ j = 3 ∨ j = 4 := by omega
    · rcases T.out (wrap64 (k : Int)) with t1 | ⟨t1, t2⟩
      all_goals
        go_wp2_with (first
          | (go_at_call 10; refine (refOf_any _ _).mono ?_; rintro e w' ⟨rfl, rfl⟩)
          | (go_at_call 9; refine (refKept_any _ _).mono ?_; rintro e w' ⟨rfl, rfl⟩)
          | (go_at_call 19; refine (refKey_any _ _).mono ?_; rintro e w' ⟨rfl, rfl⟩))
        refine ⟨⟨1, by omega, rfl⟩, by simp [intOf]⟩
    · rcases T.out (wrap64 (m1 : Int)) with t1 | ⟨t1, t2⟩
      all_goals
        go_wp2_with (first
          | (go_at_call 10; refine (refOf_any _ _).mono ?_; rintro e w' ⟨rfl, rfl⟩)
          | (go_at_call 9; refine (refKept_any _ _).mono ?_; rintro e w' ⟨rfl, rfl⟩)
          | (go_at_call 19; refine (refKey_any _ _).mono ?_; rintro e w' ⟨rfl, rfl⟩))
        refine ⟨⟨2, by omega, rfl⟩, by simp [intOf]⟩
    · rcases T.out (wrap64 (m2 : Int)) with t1 | ⟨t1, t2⟩
      all_goals
        go_wp2_with (first
          | (go_at_call 10; refine (refOf_any _ _).mono ?_; rintro e w' ⟨rfl, rfl⟩)
          | (go_at_call 9; refine (refKept_any _ _).mono ?_; rintro e w' ⟨rfl, rfl⟩)
          | (go_at_call 19; refine (refKey_any _ _).mono ?_; rintro e w' ⟨rfl, rfl⟩))
        refine ⟨⟨3, by omega, rfl⟩, by simp [intOf]⟩
    · rcases T.out (wrap64 (m3 : Int)) with t1 | ⟨t1, t2⟩
      all_goals
        go_wp2_with (first
          | (go_at_call 10; refine (refOf_any _ _).mono ?_; rintro e w' ⟨rfl, rfl⟩)
          | (go_at_call 9; refine (refKept_any _ _).mono ?_; rintro e w' ⟨rfl, rfl⟩)
          | (go_at_call 19; refine (refKey_any _ _).mono ?_; rintro e w' ⟨rfl, rfl⟩))
        refine ⟨⟨4, by omega, rfl⟩, by simp [intOf]⟩
    · go_wp2
      go_ret
      exact ⟨rfl, b1⟩
  · have hr : backRes k = .tuple #[.int .i64 (backI k), .int .i64 0] := by unfold backRes; rw [hg]; rfl
    obtain ⟨h1, h2⟩ := key_back hl hg
    clear hg
    go_enter Tryd.func5, Tryd.ntmps5
    go_wp2_with fail
    refine (alive_any w ht).mono ?_
    rintro e w1 ⟨rfl, b1⟩
    go_wp2_with (first
      | (go_at_call 16; refine (back_any _ hl _).mono ?_; rintro e w' ⟨rfl, rfl⟩)
      | (go_at_call 10; refine (refOf_any _ _).mono ?_; rintro e w' ⟨rfl, rfl⟩)
      | (go_at_call 9; refine (refKept_any _ _).mono ?_; rintro e w' ⟨rfl, rfl⟩)
      | (go_at_call 19; refine (refKey_any _ _).mono ?_; rintro e w' ⟨rfl, rfl⟩))
    go_ret
    exact ⟨rfl, b1⟩
end Go.Proofs.YtnddmpigpghgnaaDoor
