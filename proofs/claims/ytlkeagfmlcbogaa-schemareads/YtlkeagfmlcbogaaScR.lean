/- The walks of copyTable and Find. -/
import Derived.Test.YtlkeagfmlcbogaaScQ
namespace Go.Proofs.Ytlkeagfmlcbogaa
open Go.RowKit

theorem RowC.of_own {w : World} {base : Nat} {v : Value} {n : Nat} {cs : List Co} (h : w.ownsRow base 35 6 v n (cs.flatMap Co.cs)) (hn : cs.length = n) (hok : ∀ c ∈ cs, c.Ok) :
    ∃ A c, v = .slice A n c ∧ RowC w A n cs ∧ (0 < n → ∃ g, A = some ⟨g, 0, none⟩ ∧ base ≤ g ∧ g < w.heap.size) := by
  obtain ⟨A, c, rfl, hc⟩ := own_cells Co.cs default (fun _ => rfl) cs h hn
  refine ⟨A, c, rfl, ⟨hn, hok, fun h0 => ?_⟩, fun h0 => ?_⟩
  · obtain ⟨g, e1, e2, e3, e4⟩ := hc h0
    refine ⟨g, 0, e1, e3, fun j hj => ?_⟩
    rw [Nat.zero_add]
    exact ⟨e4 j hj 0 (by omega), e4 j hj 1 (by omega), e4 j hj 2 (by omega), e4 j hj 3 (by omega), e4 j hj 4 (by omega), e4 j hj 5 (by omega)⟩
  · obtain ⟨g, e1, e2, e3, e4⟩ := hc h0
    exact ⟨g, e1, e2, e3⟩
theorem RowC.move {w w' : World} {A : Option Addr} {n base : Nat} {cs : List Co} (h : RowC w A n cs) (hA : 0 < n → ∃ g, A = some ⟨g, 0, none⟩ ∧ base ≤ g ∧ g < w.heap.size) (hs : w.heap.size ≤ w'.heap.size) (hk : ∀ b, base ≤ b → b < w.heap.size → w'.heap[b]? = w.heap[b]?) : RowC w' A n cs :=
  ⟨h.1, h.2.1, fun hn => by
    obtain ⟨b, off, e1, e2, e3⟩ := h.2.2 hn
    obtain ⟨g, f1, f2, f3⟩ := hA hn
    rw [e1] at f1
    have hbg : b = g := by injection f1 with f1; injection f1
    subst hbg
    exact ⟨b, off, e1, Nat.lt_of_lt_of_le e2 hs, fun j hj => (e3 j hj).keep fun i => World.cell?_of_block (a := ⟨b, i, none⟩) (hk b f2 f3)⟩⟩

end Go.Proofs.Ytlkeagfmlcbogaa
