/- The walks of the cutter (package cell). -/
import Derived.Test.YtcjbnpeopalbfaaDoorCellF
import Derived.Test.YtcjbnpeopalbfaaDoorValI
namespace Go.Proofs.YtcjbnpeopalbfaaDoor
open Go.RowKit

theorem grown_below {w w' : World} (h : Below w.heap.size w w') (row : Option Nat) : w.grownBy w' row := ⟨h.os, h.tape, h.output, h.size, fun g hg _ => h.block g hg⟩
theorem below_grown {B : Nat} {w w' : World} {g : Nat} (h : w.grownBy w' (some g)) (hg : B ≤ g) (hB : B ≤ w.heap.size) : Below B w w' :=
  ⟨h.os, h.tape, h.output, h.size, fun i hi => h.block i (by omega) (by simp; omega)⟩

theorem grown_new {w w' : World} {row : Option Nat} (h : w.grownBy w' row) {p : Addr} (hp : w.heap.size ≤ p.block) (u : Value) : w.grownBy (w'.setCell p u) row := by
  have k := (Below.refl p.block w').setCell (p := p) (Nat.le_refl _) u
  exact ⟨k.os.trans h.os, k.tape.trans h.tape, k.output.trans h.output, Nat.le_trans h.size k.size, fun g hg hn => (k.block g (by omega)).trans (h.block g hg hn)⟩
theorem grown_put {w w' : World} {g : Nat} (h : w.grownBy w' (some g)) (i : Nat) (u : Value) : w.grownBy (w'.setCell ⟨g, i, none⟩ u) (some g) := grownBy_tr h (grownBy_set w' g i u)

def CuAt (w : World) (g : Nat) (c : Cu) : Prop := At w g 46 #[.string ⟨c.rest.toArray⟩, .bool c.bad]
theorem val_rest (c : Cu) : c.val.2.rest.length ≤ c.rest.length := by
  unfold Cu.val
  cases hc : cutV c.rest with
  | none => simp
  | some vq =>
    obtain ⟨v, q⟩ := vq
    obtain ⟨_, e, _⟩ := cut_some hc
    show q.length ≤ _
    rw [← e]
    simp
theorem name_rest (c : Cu) : c.name.2.rest.length ≤ c.rest.length := val_rest c

theorem val_parts (s : List UInt8) (bad : Bool) : ∃ (k n : Int) (t q : List UInt8) (cc : Int), (cc = 0 ∨ cc = 4) ∧ cutRes (cutV s) = .tuple #[.agg #[.int .i64 k, .int .i64 n, .string ⟨t.toArray⟩], .string ⟨q.toArray⟩, .int .i64 cc] ∧
    Cu.val ⟨s, bad⟩ = (⟨k, n, t⟩, ⟨q, bad || decide (cc ≠ 0)⟩) := by
  cases hc : cutV s with
  | none => exact ⟨0, 0, [], [], 4, .inr rfl, rfl, by unfold Cu.val; rw [hc]; cases bad <;> rfl⟩
  | some x => obtain ⟨⟨k, n, t⟩, r⟩ := x; exact ⟨k, n, t, r, 0, .inl rfl, rfl, by unfold Cu.val; rw [hc]; cases bad <;> rfl⟩

set_option maxRecDepth 100000 in
set_option maxHeartbeats 1600000 in
theorem cval_any (c : Cu) (hr : c.rest.length ≤ 1000000) (g : Nat) (w : World) (hC : CuAt w g c) :
    Calls Tryd.prog 48 #[.pointer (some ⟨g, 0, none⟩)] w fun e w' => e = .returned c.val.1.val ∧ CuAt w' g c.val.2 ∧ w.grownBy w' (some g) := by
  obtain ⟨s, bad⟩ := c
  simp only at hr
  unfold CuAt at hC
  simp only at hC
  obtain ⟨k, n, t, q, cc, hcc, hR, hV⟩ := val_parts s bad
  rw [hV]
  have HR := Lib.hid hR
  clear hR hV
  have hgl := hC.lt
  have hA := At.fresh w 23 #[.int .i64 0, .int .i64 0, .string ⟨#[]⟩]
  have hC0 := hC.alloc (.cells #[.int .i64 0, .int .i64 0, .string ⟨#[]⟩] 23)
  have c0 : (w.alloc (.cells #[.int .i64 0, .int .i64 0, .string ⟨#[]⟩] 23)).cell? ⟨g, 0, none⟩ = some (.string ⟨s.toArray⟩) := At.cell hC0 0
  have hb := below_box w (.cells #[.int .i64 0, .int .i64 0, .string ⟨#[]⟩] 23)
  have hne : ¬ g = w.heap.size := by omega
  have hne' : ¬ w.heap.size = g := by omega
  rcases hcc with rfl | rfl
  all_goals
    cases bad
    all_goals
      go_enter Tryd.func48, Tryd.ntmps48
      go_wp2_with fail
      refine (cut_any s hr _).mono ?_
      rintro e w1 ⟨rfl, b1⟩
      rw [HR.out]
      have hA1 := hA.below b1 hA.lt
      have hC1 := hC0.below b1 hC0.lt
      have hg1 : w.grownBy w1 (some g) := grown_below (below_in hb b1) _
      clear hA hC hC0 c0 b1 hb
      have hA2 := hA1.alloc (.cells #[.int .i64 k, .int .i64 n, .string ⟨t.toArray⟩] 23)
      have hC2 := hC1.alloc (.cells #[.int .i64 k, .int .i64 n, .string ⟨t.toArray⟩] 23)
      have hF2 := At.fresh w1 23 #[.int .i64 k, .int .i64 n, .string ⟨t.toArray⟩]
      have n1 : ¬ g = w1.heap.size := by have := hC1.lt; omega
      have n2 : ¬ w.heap.size = w1.heap.size := by have := hA1.lt; omega
      have hg2 := grownBy_tr hg1 (World.grownBy_alloc w1 (.cells #[.int .i64 k, .int .i64 n, .string ⟨t.toArray⟩] 23) _)
      have n1' : ¬ w1.heap.size = g := fun e => n1 e.symm
      have n2' : ¬ w1.heap.size = w.heap.size := fun e => n2 e.symm
      have d0 := At.cell hA2 0
      have d1 := At.cell hA2 1
      have d2 := At.cell hA2 2
      have c0 := At.cell hC2 0
      have c1 := At.cell hC2 1
      have f0 := At.unfrozen hA2 0
      have f1 := At.unfrozen hA2 1
      have f2 := At.unfrozen hA2 2
      have g0 := At.unfrozen hC2 0
      have g1 := At.unfrozen hC2 1
      simp only [List.getElem?_toArray, List.getElem?_cons_zero, List.getElem?_cons_succ] at d0 d1 d2 c0 c1
      go_wp2_with fail
      refine bodyPost_ret (v := (Vl.mk k n t).val) (by simp [results, Tryd.results48, go_sem, Vl.val, d0, d1, d2]) rfl ⟨rfl, ?_, ?_⟩
      · exact ((((hC2.put 0 _).put 1 _).elsewhere (p := ⟨w.heap.size, 0, none⟩) hne _).elsewhere (p := ⟨w.heap.size, 1, none⟩) hne _).elsewhere (p := ⟨w.heap.size, 2, none⟩) hne _
      · exact grown_new (grown_new (grown_new (grown_put (grown_put hg2 0 _) 1 _) (p := ⟨w.heap.size, 0, none⟩) (Nat.le_refl _) _) (p := ⟨w.heap.size, 1, none⟩) (Nat.le_refl _) _) (p := ⟨w.heap.size, 2, none⟩) (Nat.le_refl _) _
end Go.Proofs.YtcjbnpeopalbfaaDoor
