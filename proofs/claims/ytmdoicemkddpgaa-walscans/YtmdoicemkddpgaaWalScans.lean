/- The walk of the law WalScans. -/
import Derived.Test.YtmdoicemkddpgaaWalT
namespace Go.Proofs.Ytmdoicemkddpgaa
open Go.RowKit
set_option maxRecDepth 100000 in
set_option maxHeartbeats 800000 in
theorem walScans_main (s : List UInt8) (w : World) (hs : s.length ≤ maxLen) :
    Calls Try.prog 4 #[.string ⟨s.toArray⟩] w fun e w' => e = .returned (.bool true) ∧ Below w.heap.size w w' := by
  unfold maxLen at hs
  by_cases hg : 4096 < s.length
  · have hg' : decide ((4096 : Int) < (s.length : Int)) = true := by simp; omega
    go_enter Try.func4, Try.ntmps4
    go_wp2_with fail
    refine (alive_any _).mono ?_
    rintro e w1 ⟨rfl, b1⟩
    go_wp2_with fail
    go_ret
    exact ⟨rfl, b1⟩
  · have hg' : decide ((4096 : Int) < (s.length : Int)) = false := by simp; omega
    have hg2 : ¬ (4096 : Int) < (s.length : Int) := by omega
    go_enter Try.func4, Try.ntmps4
    go_wp2_with fail
    refine (alive_any _).mono ?_
    rintro e w1 ⟨rfl, b1⟩
    go_wp2_with fail
    refine (scan_any s (by omega) _).mono ?_
    rintro e w2 ⟨A2, c2, rfl, hO2, b2⟩
    have b2 := below_join b1 b2 b1.size
    go_wp2_with fail
    refine (refScan_any s (by omega) _).mono ?_
    rintro e w3 ⟨A3, c3, rfl, hO3, b3⟩
    have hO2' := hO2.below b3 (Nat.le_refl _)
    have b3 := below_join b2 b3 b2.size
    obtain ⟨_, _, e2, h21, h22⟩ := hO2.len
    have hln : (scanOf s).length ≤ maxLen := by omega
    generalize scanOf s = rs at *
    go_wp2_with fail
    refine (same_any A2 _ c2 _ A3 _ c3 _ _ hO2'.strs hO3.strs hln hln rfl).mono ?_
    rintro e w4 ⟨rfl, k4⟩
    go_wp2_with fail
    go_ret
    exact ⟨rfl, b3.trans (k4.below _)⟩
end Go.Proofs.Ytmdoicemkddpgaa
