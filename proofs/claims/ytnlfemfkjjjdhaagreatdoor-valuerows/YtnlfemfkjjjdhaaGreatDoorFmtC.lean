/- strconv's fmtEFG, ftoa64 and FormatFloat at one half. -/
import Derived.Test.YtnlfemfkjjjdhaaGreatDoorInfo
import Derived.Test.YtnlfemfkjjjdhaaGreatDoorFmtB
import Derived.Test.YtnlfemfkjjjdhaaGreatDoorMemByte
namespace Go.Proofs.YtnlfemfkjjjdhaaGreatDoor
open Go.RowKit Go.Sort


set_option maxRecDepth 100000 in
set_option maxHeartbeats 3200000 in
theorem fmtEFG_half (w : World) (g base : Nat) (v : Value) (hv : Owns w base 5 v []) (hb : base ≤ w.heap.size) (hc : w.cell? ⟨g, 0, none⟩ = some (.int .u8 53)) (hg : g < w.heap.size) (hne : v.ownBlock ≠ some g) :
    Calls Tryz.prog 114 #[v, .bool false, .slice (some ⟨g, 0, none⟩) 32 32, .int .i64 0, .int .i64 1, .int .i64 1, .int .u8 103, .bool true] w fun e w' => ∃ v', e = .returned v' ∧ Owns w' base 5 v' [48, 46, 53] ∧ Grew w v w' v' := by
  have HC := Lib.hid hc
  clear hc
  have m1 : max (1 : Int) 0 = 1 := rfl
  have m2 : max (0 : Int) 1 = 1 := rfl
  have m3 : min (1 : Int) 0 = 0 := rfl
  have m4 : min (1 : Int) 1 = 1 := rfl
  have m5 : max (0 : Int) 0 = 0 := rfl
  go_enter Tryz.func114, Tryz.ntmps114
  go_wp2_with (at_builtin; refine wpList_append_byte w rfl (.tmp 209) (.tmp 210) 43 5 rfl base Tryz.underlying43 info_u8 v [] 48 48 rfl rfl hv rfl (by simp) hb ?_)
  intro g1 c1 w1 o1 r1
  have hb1 : base ≤ w1.heap.size := Nat.le_trans hb r1.grown.size
  have o1' : Owns w1 base 5 (.slice (some ⟨g1, 0, none⟩) 1 c1) [48] := o1
  have r1' : Grew w v w1 (.slice (some ⟨g1, 0, none⟩) 1 c1) := r1
  clear o1 r1
  go_wp2_with (at_builtin; refine wpList_append_byte w1 rfl (.tmp 214) (.tmp 215) 43 5 rfl base Tryz.underlying43 info_u8 _ [48] 46 46 rfl rfl o1' rfl (by simp) hb1 ?_)
  intro g2 c2 w2 o2 r2
  have r12 := r1'.trans r2
  have hb2 : base ≤ w2.heap.size := Nat.le_trans hb1 r2.grown.size
  have hc2 : w2.cell? ⟨g, 0, none⟩ = some (.int .u8 53) := by rw [r12.cell hg hne]; exact HC.out
  have o2' : Owns w2 base 5 (.slice (some ⟨g2, 0, none⟩) 2 c2) [48, 46] := o2
  have r2' : Grew w v w2 (.slice (some ⟨g2, 0, none⟩) 2 c2) := r12
  clear o2 r2 r12
  go_wp2
  refine wp_loop_rounds 1 ?_
  rw [rounds_succ]
  go_wp2
  refine wp_loop_rounds 2 ?_
  rw [rounds_succ]
  go_wp2_with (at_builtin; refine wpList_append_byte w2 rfl (.tmp 250) (.tmp 257) 43 5 rfl base Tryz.underlying43 info_u8 _ [48, 46] 53 53 rfl rfl o2' rfl (by simp) hb2 ?_)
  intro g3 c3 w3 o3 r3
  have r3' := r2'.trans r3
  go_wp2
  rw [rounds_succ]
  go_wp2
  refine wp_loop_rounds 1 ?_
  rw [rounds_succ]
  go_wp2
  go_ret
  exact ⟨_, rfl, o3, r3'⟩

end Go.Proofs.YtnlfemfkjjjdhaaGreatDoor
