/- The walks of the laws' first tests (layer 7). -/
import Derived.Test.YtcjbnpeopalbfaaDoorCellK
namespace Go.Proofs.YtcjbnpeopalbfaaDoor
open Go.RowKit

theorem tab_a : tabK [97] = [116, 3, 97, 0, 0] := by decide
theorem shard_one : shardK [] 1 = 0 := by
  unfold shardK clampN
  simp [Nat.mod_one]

set_option maxHeartbeats 1600000 in
theorem alive_any (w : World) (ht : Lens w) :
    Calls Tryd.prog 9 #[] w fun e w' => e = .returned (.bool true) ∧ Below w.heap.size w w' := by
  go_enter Tryd.func9, Tryd.ntmps9
  go_wp2_with fail
  refine (ofTable_any [97] (by unfold maxLen; decide) w ht).mono ?_
  rintro e w1 ⟨rfl, b1⟩
  rw [tab_a]
  go_wp2_with fail
  refine (shard_any [] (by simp) 1 w1 (ht.below b1)).mono ?_
  rintro e w2 ⟨rfl, b2⟩
  rw [shard_one]
  have hb2 := below_in b1 b2
  go_wp2_with fail
  go_ret
  exact ⟨rfl, hb2⟩

def goodB (a b c : List UInt8) (x y : Vl) : Bool := decide (a.length ≤ 24) && decide (b.length ≤ 24) && decide (c.length ≤ 24) && goodV x && goodV y

set_option maxRecDepth 100000 in
set_option maxHeartbeats 1600000 in
theorem lawGood_any (a b c : List UInt8) (x y : Vl) (ha : a.length ≤ maxLen) (hb : b.length ≤ maxLen) (hc : c.length ≤ maxLen) (hx : x.Ok) (hy : y.Ok) (w : World) :
    Calls Tryd.prog 20 #[.string ⟨a.toArray⟩, .string ⟨b.toArray⟩, .string ⟨c.toArray⟩, x.val, y.val] w fun e w' => e = .returned (.bool (goodB a b c x y)) ∧ Below w.heap.size w w' := by
  unfold maxLen at ha hb hc
  unfold goodB
  obtain ⟨k, n, t⟩ := x
  obtain ⟨j, m, s⟩ := y
  have HX := Lib.hid hx
  have HY := Lib.hid hy
  clear hx hy
  show Calls _ _ #[_, _, _, .agg #[.int .i64 k, .int .i64 n, .string ⟨t.toArray⟩], .agg #[.int .i64 j, .int .i64 m, .string ⟨s.toArray⟩]] w _
  have p0 : Pair ((w.alloc (.cells #[.int .i64 k, .int .i64 n, .string ⟨t.toArray⟩] 23)).alloc (.cells #[.int .i64 j, .int .i64 m, .string ⟨s.toArray⟩] 23)) w.heap.size (w.heap.size + 1) ⟨k, n, t⟩ ⟨j, m, s⟩ := Pair.fresh w _ _ _ _ _ _
  have b0 := below_box2 w (.cells #[.int .i64 k, .int .i64 n, .string ⟨t.toArray⟩] 23) (.cells #[.int .i64 j, .int .i64 m, .string ⟨s.toArray⟩] 23)
  by_cases h1 : a.length ≤ 24
  · by_cases h2 : b.length ≤ 24
    · by_cases h3 : c.length ≤ 24
      · have g1 : decide ((a.length : Int) ≤ 24) = true := by simp; omega
        have g2 : decide ((b.length : Int) ≤ 24) = true := by simp; omega
        have g3 : decide ((c.length : Int) ≤ 24) = true := by simp; omega
        rw [decide_eq_true h1, decide_eq_true h2, decide_eq_true h3]
        go_enter Tryd.func20, Tryd.ntmps20
        go_wp2_with fail
        refine (rgood_any ⟨k, n, t⟩ HX.out _).mono ?_
        rintro e w1 ⟨rfl, b1⟩
        have p1 := p0.below b1
        have hb1 := below_in b0 b1
        clear p0 b0 b1
        cases hg : goodV ⟨k, n, t⟩ with
        | false =>
          go_wp2_with fail
          go_ret
          exact ⟨ret_b (by rw [hg]; rfl), hb1⟩
        | true =>
          obtain ⟨a0, a1, a2, c0, c1, c2⟩ := p1.cells
          go_wp2_with fail
          refine (rgood_any ⟨j, m, s⟩ HY.out _).mono ?_
          rintro e w2 ⟨rfl, b2⟩
          have hb2 := below_in hb1 b2
          go_wp2_with fail
          go_ret
          exact ⟨ret_b (by rw [hg]; simp), hb2⟩
      · have g1 : decide ((a.length : Int) ≤ 24) = true := by simp; omega
        have g2 : decide ((b.length : Int) ≤ 24) = true := by simp; omega
        have g3 : decide ((c.length : Int) ≤ 24) = false := by simp; omega
        rw [decide_eq_true h1, decide_eq_true h2, decide_eq_false h3]
        go_enter Tryd.func20, Tryd.ntmps20
        go_wp2_with fail
        go_ret
        exact ⟨rfl, b0⟩
    · have g1 : decide ((a.length : Int) ≤ 24) = true := by simp; omega
      have g2 : decide ((b.length : Int) ≤ 24) = false := by simp; omega
      rw [decide_eq_true h1, decide_eq_false h2]
      go_enter Tryd.func20, Tryd.ntmps20
      go_wp2_with fail
      go_ret
      exact ⟨rfl, b0⟩
  · have g1 : decide ((a.length : Int) ≤ 24) = false := by simp; omega
    rw [decide_eq_false h1]
    go_enter Tryd.func20, Tryd.ntmps20
    go_wp2_with fail
    go_ret
    exact ⟨rfl, b0⟩
end Go.Proofs.YtcjbnpeopalbfaaDoor
