/- strconv's functions at the values that the text of one half passes through. -/
import Derived.Test.YtkaeaiagmihmgaaGreatDoorRows
import Derived.Test.YtkaeaiagmihmgaaGreatDoorQShelf
import Derived.WalkKit
import Derived.WalkSpells
import Derived.WalkLawsBesides
import Derived.Lib.Hide
import Derived.Handy
import Derived.BigQuiet
import Derived.Laws.BitsAllLaws
namespace Go.Proofs.YtkaeaiagmihmgaaGreatDoor
open Go.RowKit

theorem mul64_a (w : World) : Calls Tryz.prog 117 #[.int .u64 9223372036854775296, .int .u64 12800000000000000000] w fun e w' => e = .returned (.tuple #[.int .u64 6399999999999999644, .int .u64 13440890240600375296]) ∧ w = w' :=
  (Tryz.bits_Mul64 9223372036854775296 12800000000000000000 (by decide) (by decide) w).mono fun _ _ ⟨h, h'⟩ => ⟨h, h'.symm⟩
theorem mul64_b (w : World) : Calls Tryz.prog 117 #[.int .u64 9223372036854776832, .int .u64 12800000000000000000] w fun e w' => e = .returned (.tuple #[.int .u64 6400000000000000710, .int .u64 10011707666218352640]) ∧ w = w' :=
  (Tryz.bits_Mul64 9223372036854776832 12800000000000000000 (by decide) (by decide) w).mono fun _ _ ⟨h, h'⟩ => ⟨h, h'.symm⟩

theorem cbits_a : bits .and .i64 5 63 = 5 := by kernel_rfl
theorem cbits_b : bits .or .u64 199999999999999988 1 = 199999999999999989 := by kernel_rfl
theorem cbits_c : bits .or .u64 200000000000000022 1 = 200000000000000023 := by kernel_rfl

set_option maxRecDepth 100000 in
set_option maxHeartbeats 400000 in
theorem uscale_a (w : World) :
    Calls Tryz.prog 92 #[.int .u64 9223372036854775296, .pointer (some ⟨w.heap.size, 0, none⟩)] (w.alloc (.cells #[.int .u64 12800000000000000000, .int .u64 0, .int .i64 5] 116)) fun e w' => e = .returned (.int .u64 199999999999999989) ∧ w.alloc (.cells #[.int .u64 12800000000000000000, .int .u64 0, .int .i64 5] 116) = w' := by
  have ca := cbits_a
  have cb := cbits_b
  go_enter Tryz.func92, Tryz.ntmps92
  go_wp2_with (go_at_call 117; refine (mul64_a _).mono ?_; rintro e w' ⟨rfl, rfl⟩)
  go_ret
  exact ⟨rfl, rfl⟩
set_option maxRecDepth 100000 in
set_option maxHeartbeats 400000 in
theorem uscale_b (w : World) :
    Calls Tryz.prog 92 #[.int .u64 9223372036854776832, .pointer (some ⟨w.heap.size, 0, none⟩)] (w.alloc (.cells #[.int .u64 12800000000000000000, .int .u64 0, .int .i64 5] 116)) fun e w' => e = .returned (.int .u64 200000000000000023) ∧ w.alloc (.cells #[.int .u64 12800000000000000000, .int .u64 0, .int .i64 5] 116) = w' := by
  have ca := cbits_a
  have cb := cbits_c
  go_enter Tryz.func92, Tryz.ntmps92
  go_wp2_with (go_at_call 117; refine (mul64_b _).mono ?_; rintro e w' ⟨rfl, rfl⟩)
  go_ret
  exact ⟨rfl, rfl⟩

theorem cbits_d : bits .and .i64 4503599627370496 1 = 0 := by kernel_rfl
theorem skewed_at (w : World) : Calls Tryz.prog 89 #[.int .i64 (-53)] w fun e w' => e = .returned (.int .i64 (-17)) ∧ w = w' := by
  go_enter Tryz.func89, Tryz.ntmps89
  go_wp2
  go_ret
  exact ⟨rfl, rfl⟩
theorem log2Pow10_at (w : World) : Calls Tryz.prog 91 #[.int .i64 17] w fun e w' => e = .returned (.int .i64 56) ∧ w = w' := by
  go_enter Tryz.func91, Tryz.ntmps91
  go_wp2
  go_ret
  exact ⟨rfl, rfl⟩
theorem nudge_at (x : Int) (h0 : 0 ≤ x) (h1 : x < 18446744073709551616) (w : World) : Calls Tryz.prog 93 #[.int .u64 x, .int .i64 0] w fun e w' => e = .returned (.int .u64 x) ∧ w = w' := by
  go_enter Tryz.func93, Tryz.ntmps93
  go_wp2
  go_ret
  exact ⟨by simp, rfl⟩
theorem ceil_at (w : World) : Calls Tryz.prog 94 #[.int .u64 199999999999999989] w fun e w' => e = .returned (.int .u64 49999999999999998) ∧ w = w' := by
  go_enter Tryz.func94, Tryz.ntmps94
  go_wp2
  go_ret
  exact ⟨rfl, rfl⟩
theorem floor_at (w : World) : Calls Tryz.prog 95 #[.int .u64 200000000000000023] w fun e w' => e = .returned (.int .u64 50000000000000005) ∧ w = w' := by
  go_enter Tryz.func95, Tryz.ntmps95
  go_wp2
  go_ret
  exact ⟨rfl, rfl⟩

/-- The tables' places that the text of one half reads. -/
structure HalfTabs (w : World) : Prop where
  hi : w.cell? ⟨8, 730, none⟩ = some (.int .u64 12800000000000000000)
  lo : w.cell? ⟨8, 731, none⟩ = some (.int .u64 0)
  ten : w.cell? ⟨2, 15, none⟩ = some (.int .u64 1000000000000000)
  big : 8 < w.heap.size ∧ 2 < w.heap.size
theorem HalfTabs.below {w w' : World} (h : HalfTabs w) (hb : Below w.heap.size w w') : HalfTabs w' :=
  ⟨by rw [hb.cell (p := ⟨8, 730, none⟩) h.big.1]; exact h.hi, by rw [hb.cell (p := ⟨8, 731, none⟩) h.big.1]; exact h.lo,
   by rw [hb.cell (p := ⟨2, 15, none⟩) h.big.2]; exact h.ten, by have := hb.size; have := h.big; omega⟩
theorem HalfTabs.alloc {w : World} (h : HalfTabs w) (o : Obj) : HalfTabs (w.alloc o) := h.below ((Below.refl _ _).alloc (Nat.le_refl _) _)

set_option maxRecDepth 100000 in
set_option maxHeartbeats 400000 in
theorem prescale_at (w : World) (h : HalfTabs w) :
    Calls Tryz.prog 90 #[.pointer (some ⟨w.heap.size, 0, none⟩), .int .i64 (-64), .int .i64 17, .int .i64 56] (w.alloc (.cells #[.int .u64 0, .int .u64 0, .int .i64 0] 116)) fun e w' => e = .returned (.tuple #[]) ∧ w.alloc (.cells #[.int .u64 12800000000000000000, .int .u64 0, .int .i64 5] 116) = w' := by
  have g1 : ∀ o, (w.alloc o).cell? ⟨8, 730, none⟩ = some (.int .u64 12800000000000000000) := fun o => (h.alloc o).hi
  have g2 : ∀ o, (w.alloc o).cell? ⟨8, 731, none⟩ = some (.int .u64 0) := fun o => (h.alloc o).lo
  go_enter Tryz.func90, Tryz.ntmps90
  go_wp2
  go_end0
  exact ⟨rfl, rfl⟩

set_option maxRecDepth 100000 in
set_option maxHeartbeats 1600000 in
theorem shortFloat_half (w : World) (h : HalfTabs w) :
    Calls Tryz.prog 70 #[.int .u64 9223372036854775808, .int .i64 (-64)] w fun e w' => e = .returned (.tuple #[.int .u64 5000000000000000, .int .i64 (-16)]) ∧ w.alloc (.cells #[.int .u64 12800000000000000000, .int .u64 0, .int .i64 5] 116) = w' := by
  have cd := cbits_d
  go_enter Tryz.func70, Tryz.ntmps70
  go_wp2_with (first | (go_at_call 89; refine (skewed_at _).mono ?_; rintro e w' ⟨rfl, rfl⟩) | (go_at_call 91; refine (log2Pow10_at _).mono ?_; rintro e w' ⟨rfl, rfl⟩))
  refine (prescale_at w h).mono ?_
  rintro e w1 ⟨rfl, rfl⟩
  go_wp2_with fail
  refine (uscale_a w).mono ?_
  rintro e w1 ⟨rfl, rfl⟩
  go_wp2_with (first | (go_at_call 93; refine (nudge_at _ (by decide) (by decide) _).mono ?_; rintro e w' ⟨rfl, rfl⟩) | (go_at_call 94; refine (ceil_at _).mono ?_; rintro e w' ⟨rfl, rfl⟩))
  refine (uscale_b w).mono ?_
  rintro e w1 ⟨rfl, rfl⟩
  go_wp2_with (first | (go_at_call 93; refine (nudge_at _ (by decide) (by decide) _).mono ?_; rintro e w' ⟨rfl, rfl⟩) | (go_at_call 95; refine (floor_at _).mono ?_; rintro e w' ⟨rfl, rfl⟩))
  go_ret2
  exact ⟨rfl, rfl⟩

theorem len64_at (u n : Nat) (hu : u < 18446744073709551616) (hn : Lib.bitLen u = n) (w : World) : Calls Tryz.prog 62 #[.int .u64 u] w fun e w' => e = .returned (.int .i64 n) ∧ w = w' := by
  refine (Tryz.bits_Len64 u w (by omega) (by omega)).mono ?_
  rintro e w' ⟨rfl, rfl⟩
  exact ⟨by simp [hn], rfl⟩
theorem bitLen_a : Lib.bitLen 4503599627370496 = 53 := by decide
theorem bitLen_b : Lib.bitLen 5000000000000000 = 53 := by decide
theorem log10Pow2_at (w : World) : Calls Tryz.prog 65 #[.int .i64 53] w fun e w' => e = .returned (.int .i64 15) ∧ w = w' := by
  go_enter Tryz.func65, Tryz.ntmps65
  go_wp2
  go_ret
  exact ⟨rfl, rfl⟩
theorem bool2_at (w : World) : Calls Tryz.prog 83 #[.bool true] w fun e w' => e = .returned (.int .i64 1) ∧ w = w' := by
  go_enter Tryz.func83, Tryz.ntmps83
  go_wp2
  go_ret
  exact ⟨rfl, rfl⟩
set_option maxRecDepth 100000 in
set_option maxHeartbeats 400000 in
theorem numDigits_half (w : World) (h : HalfTabs w) :
    Calls Tryz.prog 54 #[.int .u64 5000000000000000] w fun e w' => e = .returned (.int .i64 16) ∧ w = w' := by
  have ht := h.ten
  go_enter Tryz.func54, Tryz.ntmps54
  go_wp2_with (first | (go_at_call 62; refine (len64_at 5000000000000000 53 (by decide) bitLen_b _).mono ?_; rintro e w' ⟨rfl, rfl⟩) | (go_at_call 65; refine (log10Pow2_at _).mono ?_; rintro e w' ⟨rfl, rfl⟩) | (go_at_call 83; refine (bool2_at _).mono ?_; rintro e w' ⟨rfl, rfl⟩))
  go_ret
  exact ⟨rfl, rfl⟩
end Go.Proofs.YtkaeaiagmihmgaaGreatDoor
