/- The laws' function great. -/
import Derived.Test.YteehccklnidofaaQGrQ
import Derived.Test.YteehccklnidofaaQExK
namespace Go.Proofs.Yteehccklnidofaa
open Go.RowKit

set_option maxRecDepth 100000 in
set_option maxHeartbeats 1600000 in
theorem ggreat_any (A : Option Addr) (n cap : Nat) (gs : List Gr) (w : World) (hr : RowG w A n gs) (hn : n ≤ maxLen) :
    Calls Try.prog 9 #[.slice A n cap] w fun e w' => IsBool e ∧ Below w.heap.size w w' := by
  unfold maxLen at hn
  go_enter Try.func9, Try.ntmps9
  go_wp2_with fail
  go_loopw [3, 8] (fun sv iv wr => ∃ (k : Nat) (z : Int), k ≤ n ∧ iv = .int .i64 k ∧ sv = .int .i64 z ∧ Below w.heap.size w wr) (fun _ iv _ => n - (intOf iv).toNat)
  case atStart => exact ⟨0, 0, by omega, rfl, rfl, Below.refl _ _⟩
  case round =>
    obtain ⟨k, z, hk, rfl, rfl, hbr⟩ := hrel
    by_cases hlt : k < n
    · obtain ⟨b, off, rfl, hbl, hcell⟩ := hr.2.2 (by omega)
      obtain ⟨c0, c1, c2⟩ := (hcell k hlt).keep fun i => hbr.cell (p := ⟨b, i, none⟩) hbl
      clear hcell
      generalize gs.getD k default = g at *
      have hb0 := below_box wr (.cells #[.int .i64 g.role, .string ⟨g.table.toArray⟩, .int .i64 g.bits] 24)
      have hb3 := below_in hbr hb0
      go_wp2_with fail
      exact ⟨⟨k + 1, _, by omega, by go_num, rfl, hb3⟩, by simp [intOf]; omega⟩
    · obtain rfl : n = k := by omega
      go_wp2_with fail
      all_goals
        go_ret
        exact ⟨⟨_, rfl⟩, hbr⟩
end Go.Proofs.Yteehccklnidofaa
