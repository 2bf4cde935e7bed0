/- What the laws' test of validity says (layer 7). -/
import Derived.Test.YtcjbnpeopalbfaaDoorCellL
namespace Go.Proofs.YtcjbnpeopalbfaaDoor
open Go.RowKit

theorem goodB_true {a b c : List UInt8} {x y : Vl} (h : goodB a b c x y = true) : a.length ≤ 24 ∧ b.length ≤ 24 ∧ c.length ≤ 24 ∧ goodV x = true ∧ goodV y = true := by
  unfold goodB at h
  simp only [Bool.and_eq_true, decide_eq_true_eq] at h
  exact ⟨h.1.1.1.1, h.1.1.1.2, h.1.1.2, h.1.2, h.2⟩
end Go.Proofs.YtcjbnpeopalbfaaDoor
