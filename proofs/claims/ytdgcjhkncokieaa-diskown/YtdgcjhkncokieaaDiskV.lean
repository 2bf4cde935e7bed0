/- The walk of 'alive' (layer 5). -/
import Derived.Test.YtdgcjhkncokieaaDiskU
namespace Go.Proofs.Ytdgcjhkncokieaa
open Go.RowKit

theorem Below.wgrew {w0 w w' : World} {B b : Nat} {v v' : Value} (h : Below B w0 w) (k : Wgrew w b v w' v') (hb : B ≤ b) (hv : ∀ g, v.ownBlock = some g → B ≤ g) (hs : B ≤ w.heap.size) : Below B w0 w' := h.trans (k.below hs hb hv)
theorem Dsk.lo {w : World} {base b : Nat} {v : Value} {D : Dk} (h : Dsk w base b v D) : ∀ g, v.ownBlock = some g → base ≤ g := fun g hg => (h.bts.lt g hg).1

set_option maxRecDepth 100000 in
set_option maxHeartbeats 800000 in
theorem alive_any (w : World) : Calls Try.prog 7 #[] w fun e w' => e = .returned (.bool true) ∧ Below w.heap.size w w' := by
  have e0 : dkNew 10 = ⟨[], 0, 10, 1, false⟩ := rfl
  have e1 : (⟨[], 0, 10, 1, false⟩ : Dk).append [97, 98, 99] = (0, ⟨[97, 98, 99], 0, 10, 1, false⟩) := rfl
  have e2 : (⟨[97, 98, 99], 0, 10, 1, false⟩ : Dk).sync = (0, ⟨[97, 98, 99], 3, 10, 1, false⟩) := rfl
  have e3 : (⟨[97, 98, 99], 3, 10, 1, false⟩ : Dk).append [100, 101] = (0, ⟨[97, 98, 99, 100, 101], 3, 10, 1, false⟩) := rfl
  have e4 : (⟨[97, 98, 99, 100, 101], 3, 10, 1, false⟩ : Dk).off 1 0 = ⟨[97, 98, 99, 100], 3, 10, 1, true⟩ := by simp [Dk.off, Dk.kept, turned]
  have e5 : (⟨[97, 98, 99, 100], 3, 10, 1, true⟩ : Dk).on = ⟨[97, 98, 99, 100], 4, 10, 2, false⟩ := rfl
  go_enter Try.func7, Try.ntmps7
  go_wp2_with fail
  refine (new_any 10 w).mono ?_
  rintro e w1 ⟨rfl, hD1, hb1, hs1⟩
  rw [e0] at hD1
  go_wp2_with fail
  refine (append_any hD1 ⟨by decide, by decide, by decide⟩ [97, 98, 99] (by omega)).mono ?_
  rintro e w2 ⟨rfl, v2, hD2, hG2⟩
  rw [e1] at hD2 ⊢
  have hb2 := Below.wgrew hb1 hG2 (Nat.le_refl _) hD1.lo (by omega)
  clear hD1 hG2 hb1
  go_wp2_with fail
  refine (sync_any hD2).mono ?_
  rintro e w3 ⟨rfl, hD3, hG3⟩
  rw [e2] at hD3 ⊢
  have hb3 := Below.wgrew hb2 hG3 (Nat.le_refl _) hD2.lo hb2.size
  clear hD2 hG3 hb2
  go_wp2_with fail
  refine (append_any hD3 ⟨by decide, by decide, by decide⟩ [100, 101] hb3.size).mono ?_
  rintro e w4 ⟨rfl, v4, hD4, hG4⟩
  rw [e3] at hD4 ⊢
  have hb4 := Below.wgrew hb3 hG4 (Nat.le_refl _) hD3.lo hb3.size
  clear hD3 hG4 hb3
  go_wp2_with fail
  refine (off_any hD4 ⟨by decide, by decide, by decide⟩ 1 0).mono ?_
  rintro e w5 ⟨rfl, v5, hD5, hG5⟩
  rw [e4] at hD5
  have hb5 := Below.wgrew hb4 hG5 (Nat.le_refl _) hD4.lo hb4.size
  clear hD4 hG5 hb4
  go_wp2_with fail
  refine (on_any hD5 (by decide)).mono ?_
  rintro e w6 ⟨rfl, hD6, hG6⟩
  rw [e5] at hD6
  have hb6 := Below.wgrew hb5 hG6 (Nat.le_refl _) hD5.lo hb5.size
  clear hD5 hG6 hb5
  go_wp2_with fail
  refine (read_any hD6).mono ?_
  rintro e w7 ⟨rfl, rfl⟩
  go_wp2_with fail
  refine (boots_any hD6).mono ?_
  rintro e w7 ⟨rfl, rfl⟩
  go_wp2_with fail
  go_ret
  exact ⟨rfl, hb6⟩
end Go.Proofs.Ytdgcjhkncokieaa
