/- What the bound of the second form gives: how many letters a slice of strings holds. -/
import Derived.Test.YtlkeagfmlcbogaaRows
namespace Go.Proofs.Ytlkeagfmlcbogaa.bulks

theorem bound {H : Type} {l : List (DataW H)} (hk : Rows.uptoSmall H l = true) : Rows.uptoBulkAll l ≤ 1048576 := of_decide_eq_true hk

theorem letters {H : Type} : ∀ ss : List (List UInt8), ss.flatten.length + ss.length ≤ Rows.uptoBulkAll (ss.map fun s => DataW.lit (H := H) (.string s))
  | [] => by simp
  | s :: r => by
    have := letters (H := H) r
    simp only [List.map_cons, Rows.uptoBulkAll, Rows.uptoBulk, List.flatten_cons, List.length_append, List.length_cons]
    omega

theorem strs_le {H : Type} {d : DataW H} {ss : List (List UInt8)} (hB : Rows.uptoBulk d ≤ 1048576) (u : d = .nil ∧ ss = [] ∨ ∃ sp, d = .slice (ss.map fun s => .lit (.string s)) sp) : ss.flatten.length ≤ 1048576 := by
  rcases u with ⟨_, rfl⟩ | ⟨sp, rfl⟩
  · simp
  · have h1 := letters (H := H) ss
    simp only [Rows.uptoBulk] at hB
    omega
theorem str_le {H : Type} {l : List UInt8} (hB : Rows.uptoBulk (DataW.lit (H := H) (.string l)) ≤ 1048576) : l.length ≤ 1048576 := by
  simp only [Rows.uptoBulk] at hB
  omega
end Go.Proofs.Ytlkeagfmlcbogaa.bulks
