/- strconv's fmtEFG, ftoa64 and FormatFloat at one half. -/
/- strconv's ftoa64 and FormatFloat at one half. -/
import Derived.Test.YtkaeaiagmihmgaaGreatDoorQInfo
import Derived.Test.YtkaeaiagmihmgaaGreatDoorQFmtB
import Derived.Deep.RegionWith
namespace Go.Proofs.YtkaeaiagmihmgaaGreatDoor
open Go.RowKit Go.Sort


set_option maxRecDepth 100000 in
set_option maxHeartbeats 3200000 in
theorem fmtEFG_half (w : World) (g base : Nat) (v : Value) (hv : Owns w base 5 v []) (hb : base ≤ w.heap.size) (hc : w.cell? ⟨g, 0, none⟩ = some (.int .u8 53)) (hg : g < w.heap.size) (hne : v.ownBlock ≠ some g) :
    Calls Tryz.prog 61 #[v, .bool false, .slice (some ⟨g, 0, none⟩) 32 32, .int .i64 0, .int .i64 1, .int .i64 1, .int .u8 103, .bool true] w fun e w' => ∃ v', e = .returned v' ∧ Owns w' base 5 v' [48, 46, 53] ∧ Grew w v w' v' := by
  have HC := Lib.hid hc
  clear hc
  have m1 : max (1 : Int) 0 = 1 := rfl
  have m2 : max (0 : Int) 1 = 1 := rfl
  have m3 : min (1 : Int) 0 = 0 := rfl
  have m4 : min (1 : Int) 1 = 1 := rfl
  have m5 : max (0 : Int) 0 = 0 := rfl
  go_enter Tryz.func61, Tryz.ntmps61
  go_wp2_with (at_builtin; refine wpList_append_byte w rfl (.tmp 209) (.tmp 210) 42 5 rfl base Tryz.underlying42 info_u8 v [] 48 48 rfl rfl hv rfl (by simp) hb ?_)
  intro g1 c1 w1 o1 r1
  have hb1 : base ≤ w1.heap.size := Nat.le_trans hb r1.grown.size
  have o1' : Owns w1 base 5 (.slice (some ⟨g1, 0, none⟩) 1 c1) [48] := o1
  have r1' : Grew w v w1 (.slice (some ⟨g1, 0, none⟩) 1 c1) := r1
  clear o1 r1
  go_wp2_with (at_builtin; refine wpList_append_byte w1 rfl (.tmp 214) (.tmp 215) 42 5 rfl base Tryz.underlying42 info_u8 _ [48] 46 46 rfl rfl o1' rfl (by simp) hb1 ?_)
  intro g2 c2 w2 o2 r2
  have r12 := r1'.trans r2
  have hb2 : base ≤ w2.heap.size := Nat.le_trans hb1 r2.grown.size
  have hc2 : w2.cell? ⟨g, 0, none⟩ = some (.int .u8 53) := by rw [r12.cell hg hne]; exact HC.out
  have o2' : Owns w2 base 5 (.slice (some ⟨g2, 0, none⟩) 2 c2) [48, 46] := o2
  have r2' : Grew w v w2 (.slice (some ⟨g2, 0, none⟩) 2 c2) := r12
  clear o2 r2 r12
  go_wp2
  refine wp_loop_rounds 1 ?_
  rw [rounds_succ]
  go_wp2
  refine wp_loop_rounds 2 ?_
  rw [rounds_succ]
  go_wp2_with (at_builtin; refine wpList_append_byte w2 rfl (.tmp 250) (.tmp 257) 42 5 rfl base Tryz.underlying42 info_u8 _ [48, 46] 53 53 rfl rfl o2' rfl (by simp) hb2 ?_)
  intro g3 c3 w3 o3 r3
  have r3' := r2'.trans r3
  go_wp2
  rw [rounds_succ]
  go_wp2
  refine wp_loop_rounds 1 ?_
  rw [rounds_succ]
  go_wp2
  go_ret
  exact ⟨_, rfl, o3, r3'⟩

end Go.Proofs.YtkaeaiagmihmgaaGreatDoor

namespace Go.Proofs.YtkaeaiagmihmgaaGreatDoor
open Go.RowKit Go.Sort

theorem tobits' (b : Nat) (w : World) : (callFunc 58 #[.float .f64 b]).run Tryz.prog w = .ok (.value (.int .u64 b)) w := by
  rw [run_callFunc_extern Tryz.func58 (by kernel_rfl) (by kernel_rfl) (by kernel_rfl) (e := Extern.MathFloatBits.float64bits) (by rfl)]
  rfl
theorem cb1 : bits .and .i64 1022 2047 = 1022 := by kernel_rfl
theorem cb2 : bits .and .u64 4602678819172646912 4503599627370495 = 0 := by kernel_rfl
theorem cb3 : bits .or .u64 0 4503599627370496 = 4503599627370496 := by kernel_rfl

set_option maxRecDepth 100000 in
set_option maxHeartbeats 3200000 in
theorem ftoa64_half (w : World) (base : Nat) (v : Value) (hv : Owns w base 5 v []) (hb : base ≤ w.heap.size) (ht : HalfTabs w) :
    Calls Tryz.prog 42 #[v, .float .f64 4602678819172646912, .int .u8 103, .int .i64 (-1)] w fun e w' => ∃ v', e = .returned v' ∧ Owns w' base 5 v' [48, 46, 53] ∧ Below base w w' := by
  have f1 := tobits'
  have c1 := cb1
  have c2 := cb2
  have c3 := cb3
  go_enter Tryz.func42, Tryz.ntmps42
  go_wp2
  go_quiet (fail)
  generalize hw1 : w.drewN _ = w1
  have bw1 : Below base w w1 := by rw [← hw1]; exact ⟨rfl, rfl, rfl, Nat.le_refl _, fun _ _ => rfl⟩
  have bw1' : Below w.heap.size w w1 := by rw [← hw1]; exact ⟨rfl, rfl, rfl, Nat.le_refl _, fun _ _ => rfl⟩
  have hv1 : Owns w1 base 5 v [] := by rw [← hw1]; exact hv
  have hb1 : base ≤ w1.heap.size := Nat.le_trans hb bw1.size
  have ht1 := ht.below bw1'
  clear hw1
  go_wp2_with (go_at_call 62; refine (len64_at 4503599627370496 53 (by decide) bitLen_a _).mono ?_; rintro e w' ⟨rfl, rfl⟩)
  refine (shortFloat_half _ (ht1.alloc _)).mono ?_
  rintro e w2 ⟨rfl, hw2⟩
  have bw2 : Below w1.heap.size w1 w2 := by rw [← hw2]; exact ((Below.refl _ _).alloc (Nat.le_refl _) _).alloc (by simp) _
  have ht2 : HalfTabs w2.drew := (ht1.below bw2).below (Below.refl _ _).drew
  have hA2 : At w2.drew w1.heap.size 87 (Array.replicate 32 (.int .u8 0)) := by
    have : At w2 w1.heap.size 87 (Array.replicate 32 (.int .u8 0)) := by rw [← hw2]; exact (At.fresh w1 87 (Array.replicate 32 (.int .u8 0))).alloc _
    exact this
  clear hw2
  go_wp2_with fail
  go_region_with (first | (go_at_call 54; refine (numDigits_half w2.drew ht2).mono ?_; rintro e w' ⟨rfl, rfl⟩) | (go_at_call 64; refine (setDigits_half w2.drew w1.heap.size hA2).mono ?_; rintro e w3 ⟨rfl, hc3, r3⟩))
  have bw3 : Below w1.heap.size w1 w3 := ⟨r3.os.trans bw2.os, r3.tape.trans bw2.tape, r3.output.trans bw2.output, Nat.le_trans bw2.size r3.size, fun k hk => (r3.block k (Nat.lt_of_lt_of_le hk bw2.size) (by intro e; have := Option.some.inj e; omega)).trans (bw2.block k hk)⟩
  have hv3 : Owns w3 base 5 v [] := hv1.below bw3 (fun g hg => (hv1.lt g hg).2)
  have hne : v.ownBlock ≠ some w1.heap.size := fun e => Nat.lt_irrefl _ (hv1.lt _ e).2
  have hg3 : w1.heap.size < w3.heap.size := Nat.lt_of_lt_of_le hA2.lt r3.size
  have hb3 : base ≤ w3.heap.size := Nat.le_trans hb1 bw3.size
  have m1 : max (1 : Int) 0 = 1 := rfl
  go_wp2_with fail
  refine (fmtEFG_half w3 w1.heap.size base v hv3 hb3 hc3 hg3 hne).mono ?_
  rintro e w4 ⟨v', rfl, o4, r4⟩
  go_wp2
  go_ret
  exact ⟨_, rfl, o4, (bw1.trans (bw3.mono hb1)).trans (r4.below hb3 (fun g hg => (hv1.lt g hg).1))⟩

end Go.Proofs.YtkaeaiagmihmgaaGreatDoor
