/- The walk of goodRef. -/
import Derived.Test.YteehccklnidofaaQScF
namespace Go.Proofs.Yteehccklnidofaa
open Go.RowKit

def kind0 (t : Tb) : Int := (t.cols.getD 0 default).kind
/-- What is wrong with what a column of kind k refers to. -/
def tgtE (o : Tb) (k : Int) : Int := if o.cn = 0 then 8 else if kind0 o = k then 0 else 9
def refE (c : Co) (t : Tb) (s : Sc) : Int :=
  if c.ref = t.name then tgtE t c.kind else match firstAt (fun j => (s.tab j).name) c.ref s.tn with | none => 8 | some i => tgtE (s.tab i) c.kind

/-- The cells of the first column. -/
theorem RowC.first {w : World} {A : Option Addr} {n : Nat} {cs : List Co} (h : RowC w A n cs) (hn : 0 < n) : ∃ b off, A = some ⟨b, off, none⟩ ∧ b < w.heap.size ∧ w.cell? ⟨b, off + 1, none⟩ = some (.int .i64 (cs.getD 0 default).kind) ∧ (∃ x, w.cell? ⟨b, off, none⟩ = some x) := by
  obtain ⟨b, off, e1, e2, e3⟩ := h.2.2 hn
  have := e3 0 hn
  obtain ⟨q0, q1, _⟩ := this
  rw [Nat.zero_mul, Nat.add_zero] at q0 q1
  exact ⟨b, off, e1, e2, q1, _, q0⟩
theorem At.four {w : World} {g : Nat} {t : TypeId} {x y z p : Value} (h : At w g t #[x, y, z, p]) : w.cell? ⟨g, 0, none⟩ = some x ∧ w.cell? ⟨g, 1, none⟩ = some y ∧ w.cell? ⟨g, 2, none⟩ = some z ∧ w.cell? ⟨g, 3, none⟩ = some p ∧
    w.frozen? ⟨g, 0, none⟩ = false ∧ w.frozen? ⟨g, 1, none⟩ = false ∧ w.frozen? ⟨g, 2, none⟩ = false ∧ w.frozen? ⟨g, 3, none⟩ = false :=
  ⟨h.cell 0, h.cell 1, h.cell 2, h.cell 3, h.unfrozen 0, h.unfrozen 1, h.unfrozen 2, h.unfrozen 3⟩
theorem below_set4 {w w1 : World} {g : Nat} (h : Below w.heap.size w w1) (hg : w.heap.size ≤ g) (x y z p : Value) : Below w.heap.size w ((((w1.setCell ⟨g, 0, none⟩ x).setCell ⟨g, 1, none⟩ y).setCell ⟨g, 2, none⟩ z).setCell ⟨g, 3, none⟩ p) :=
  (((h.setCell (p := ⟨g, 0, none⟩) hg x).setCell (p := ⟨g, 1, none⟩) hg y).setCell (p := ⟨g, 2, none⟩) hg z).setCell (p := ⟨g, 3, none⟩) hg p

end Go.Proofs.Yteehccklnidofaa
