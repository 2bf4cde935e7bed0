/- The walks of the cutter (package cell), continued. -/
import Derived.Test.YtcjbnpeopalbfaaDoorCellG
namespace Go.Proofs.YtcjbnpeopalbfaaDoor
open Go.RowKit

set_option maxRecDepth 100000 in
set_option maxHeartbeats 1600000 in
theorem cname_any (c : Cu) (hr : c.rest.length ≤ 1000000) (g : Nat) (w : World) (hC : CuAt w g c) :
    Calls Tryd.prog 47 #[.pointer (some ⟨g, 0, none⟩)] w fun e w' => e = .returned (.string ⟨c.name.1.toArray⟩) ∧ CuAt w' g c.name.2 ∧ w.grownBy w' (some g) := by
  have hV := cval_any c hr g w hC
  have hN : c.name = (c.val.1.text, ⟨c.val.2.rest, c.val.2.bad || !decide (c.val.1.kind = 3)⟩) := rfl
  rw [hN]
  clear hN
  generalize c.val = x at *
  obtain ⟨⟨k, n, t⟩, ⟨q, bad⟩⟩ := x
  simp only at hV ⊢
  replace hV : Calls Tryd.prog 48 #[.pointer (some ⟨g, 0, none⟩)] w fun e w' => e = .returned (.agg #[.int .i64 k, .int .i64 n, .string ⟨t.toArray⟩]) ∧ CuAt w' g ⟨q, bad⟩ ∧ w.grownBy w' (some g) := hV
  have HV := Lib.hid hV
  have hgl := hC.lt
  clear hV
  cases bad
  all_goals
    by_cases h3 : k = 3
    all_goals
      first | (rw [decide_eq_true h3]; have h5 : (k != 3) = false := by simp [h3]) | (rw [decide_eq_false h3]; have h5 : (k != 3) = true := by simp [h3])
      clear h3
      go_enter Tryd.func47, Tryd.ntmps47
      go_wp2_with fail
      refine HV.out.mono ?_
      rintro e w1 ⟨rfl, hC1, hg1⟩
      unfold CuAt at hC1
      simp only at hC1
      have hC2 := hC1.alloc (.cells #[.int .i64 k, .int .i64 n, .string ⟨t.toArray⟩] 23)
      have n1 : ¬ g = w1.heap.size := by have := hC1.lt; omega
      have n1' : ¬ w1.heap.size = g := fun e => n1 e.symm
      have hg2 := grownBy_tr hg1 (World.grownBy_alloc w1 (.cells #[.int .i64 k, .int .i64 n, .string ⟨t.toArray⟩] 23) _)
      have c0 := At.cell hC2 0
      have c1 := At.cell hC2 1
      have g0 := At.unfrozen hC2 0
      have g1 := At.unfrozen hC2 1
      simp only [List.getElem?_toArray, List.getElem?_cons_zero, List.getElem?_cons_succ] at c0 c1
      go_wp2_with fail
      go_ret
      refine ⟨rfl, ?_, grown_put hg2 1 _⟩
      first
        | exact hC2.put 1 (.bool true)
        | exact hC2.put 1 (.bool false)

def Pl.val (p : Pl) : Value := .agg #[.int .u8 p.kind, .string ⟨p.table.toArray⟩, .string ⟨p.col.toArray⟩, .int .i64 p.key.kind, .int .i64 p.key.num, .string ⟨p.key.text.toArray⟩, .string ⟨p.from_.toArray⟩, .int .i64 p.by_.kind, .int .i64 p.by_.num, .string ⟨p.by_.text.toArray⟩]

def put10 (w : World) (R : Nat) (v0 v1 v2 v3 v4 v5 v6 v7 v8 v9 : Value) : World := ((((((((((w.setCell ⟨R, 0, none⟩ v0).setCell ⟨R, 1, none⟩ v1).setCell ⟨R, 2, none⟩ v2).setCell ⟨R, 3, none⟩ v3).setCell ⟨R, 4, none⟩ v4).setCell ⟨R, 5, none⟩ v5).setCell ⟨R, 6, none⟩ v6).setCell ⟨R, 7, none⟩ v7).setCell ⟨R, 8, none⟩ v8).setCell ⟨R, 9, none⟩ v9)
theorem put10_at {w : World} {g R : Nat} {t : TypeId} {cs : Array Value} (h : At w g t cs) (hne : g ≠ R) (v0 v1 v2 v3 v4 v5 v6 v7 v8 v9 : Value) : At (put10 w R v0 v1 v2 v3 v4 v5 v6 v7 v8 v9) g t cs := ((((((((((h.elsewhere (p := ⟨R, 0, none⟩) hne v0).elsewhere (p := ⟨R, 1, none⟩) hne v1).elsewhere (p := ⟨R, 2, none⟩) hne v2).elsewhere (p := ⟨R, 3, none⟩) hne v3).elsewhere (p := ⟨R, 4, none⟩) hne v4).elsewhere (p := ⟨R, 5, none⟩) hne v5).elsewhere (p := ⟨R, 6, none⟩) hne v6).elsewhere (p := ⟨R, 7, none⟩) hne v7).elsewhere (p := ⟨R, 8, none⟩) hne v8).elsewhere (p := ⟨R, 9, none⟩) hne v9)
theorem put10_grown {w0 w : World} {R : Nat} {row : Option Nat} (h : w0.grownBy w row) (hR : w0.heap.size ≤ R) (v0 v1 v2 v3 v4 v5 v6 v7 v8 v9 : Value) : w0.grownBy (put10 w R v0 v1 v2 v3 v4 v5 v6 v7 v8 v9) row := (grown_new (grown_new (grown_new (grown_new (grown_new (grown_new (grown_new (grown_new (grown_new (grown_new h (p := ⟨R, 0, none⟩) hR v0) (p := ⟨R, 1, none⟩) hR v1) (p := ⟨R, 2, none⟩) hR v2) (p := ⟨R, 3, none⟩) hR v3) (p := ⟨R, 4, none⟩) hR v4) (p := ⟨R, 5, none⟩) hR v5) (p := ⟨R, 6, none⟩) hR v6) (p := ⟨R, 7, none⟩) hR v7) (p := ⟨R, 8, none⟩) hR v8) (p := ⟨R, 9, none⟩) hR v9)
end Go.Proofs.YtcjbnpeopalbfaaDoor
