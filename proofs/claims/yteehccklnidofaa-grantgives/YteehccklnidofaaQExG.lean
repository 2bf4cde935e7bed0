/- The walk of kindOf. -/
import Derived.Test.YteehccklnidofaaQExB
import Derived.Deep.RegionHeld3
namespace Go.Proofs.Yteehccklnidofaa
open Go.RowKit

theorem CellsE.below {w w' : World} {b o : Nat} {e : Ex} (h : CellsE w b o e) (hb : Below w.heap.size w w') (hlt : b < w.heap.size) : CellsE w' b o e := h.keep fun i => hb.cell (p := ⟨b, i, none⟩) hlt
section
variable {P : Program} {ops : Array Oper} {Q : Exit → Act → World → Prop} {md : Region.Mode} {S : World → Prop}
theorem op_at {i : Nat} {oi : Oper} (hi : (ops.toList.drop i).head? = some oi) : ops[i]? = some oi := by
  rw [List.head?_drop] at hi
  simpa using hi
/-- An operation is taken first, its slot told. -/
theorem take_at {i d : Nat} {oi : Oper} {v : Value} {fuel : Nat} {listed : Array Bool} {ts : Array Value} {ds : List Deferred} {w : World} (hi : (ops.toList.drop i).head? = some oi) (hd : oi.dst = some d)
    (hs : Region.noSelect ops = true) (hf : Region.free md ops listed i = true) (hr : (Region.ready md ops listed).contains i = true)
    (hQ : ∀ c a w, Q (.panic c) (a.put oi.dst v) w → Q (.panic c) a w) (hw : Region.wanted oi (yielded ops ts) = true) (hS : S w)
    (hy : ∀ w, S w → (execOp ({ tmps := ts, defers := ds } : Act).eval oi).run P w = .ok (.value v) w)
    (h : wpAnyH P md ops Q S fuel (listed.setIfInBounds i true) { tmps := ts.setIfInBounds d v, defers := ds } w) : wpAnyH P md ops Q S (fuel + 1) listed { tmps := ts, defers := ds } w :=
  wpAnyH_take (op_at hi) hs hf hr hQ (.inl ⟨hw, hy⟩) hS (by rw [hd]; exact h)
/-- The one operation that may come up. -/
theorem only_at {i : Nat} {o : Oper} {fuel : Nat} {listed : Array Bool} {a : Act} {w : World} (hi : (ops.toList.drop i).head? = some o) (hr : Region.ready md ops listed = [i]) (hw : Region.wanted o (yielded ops a.tmps) = true)
    (h : ∀ K' : Act → World → Prop, Shut (∀ a w, S w → (S w → wpAnyH P md ops Q S fuel (listed.setIfInBounds i true) a w) → K' a w) → Oper.wp P o a w K' Q) : wpAnyH P md ops Q S (fuel + 1) listed a w :=
  wpAnyH_ready hr (by simp) (AllReadyH.cons (op_at hi) (fun K hK => by rw [if_pos hw]; exact h K hK) AllReadyH.nil)
end
theorem two_of {op : Int} {p : Nat} (h : hasOps op p = true) (h1 : ¬ op = 1) (h2 : ¬ op = 2) (h7 : ¬ op = 7) (h8 : ¬ op = 8) : p = 2 := by
  unfold hasOps at h
  rw [if_neg (by omega), if_neg (by omega)] at h
  split at h <;> simp at h
  exact h
theorem At.six {w : World} {g : Nat} {t : TypeId} {x y z p q r : Value} (h : At w g t #[x, y, z, p, q, r]) : w.cell? ⟨g, 0, none⟩ = some x ∧ w.cell? ⟨g, 1, none⟩ = some y ∧ w.cell? ⟨g, 2, none⟩ = some z ∧
    w.cell? ⟨g, 3, none⟩ = some p ∧ w.cell? ⟨g, 4, none⟩ = some q ∧ w.cell? ⟨g, 5, none⟩ = some r := ⟨h.cell 0, h.cell 1, h.cell 2, h.cell 3, h.cell 4, h.cell 5⟩

end Go.Proofs.Yteehccklnidofaa
