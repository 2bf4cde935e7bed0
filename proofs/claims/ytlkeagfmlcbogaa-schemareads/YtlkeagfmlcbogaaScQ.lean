/- The walks of copyExprs, copyTable and Find. -/
import Derived.Test.YtlkeagfmlcbogaaScP
namespace Go.Proofs.Ytlkeagfmlcbogaa
open Go.RowKit

/-- Another slice for the operands. -/
def Ex.withArgs (e : Ex) (A : Option Addr) (n cap : Nat) (arg : Nat → Ex) : Ex := .mk e.op e.col e.v A n cap arg
theorem own_block {α : Type} {w : World} {base : Nat} {e : TypeId} {v : Value} {n : Nat} (f : α → List Value) (d : α) (hf : ∀ a, (f a).length = 6) (l : List α) (h : w.ownsRow base e 6 v n (l.flatMap f)) (hn : l.length = n) (h0 : 0 < n) :
    ∃ g c cur, v = .slice (some ⟨g, 0, none⟩) n c ∧ base ≤ g ∧ At w g e cur ∧ ∀ j, j < n → ∀ i, i < 6 → cur[j * 6 + i]? = (f (l.getD j d))[i]? := by
  rcases h.2 with ⟨rfl, rfl⟩ | ⟨g, cap, cur, rfl, hb, hg, _, _, _, htk⟩
  · omega
  · refine ⟨g, cap, cur, rfl, hb, hg, fun j hj i hi => ?_⟩
    rw [← flat_at f 6 d hf l j (by omega) i hi, ← htk, List.getElem?_take, if_pos (by omega)]
    simp
theorem getD_fn (n : Nat) (f : Nat → Ex) (j : Nat) (hj : j < n) : ((List.range n).map f).getD j .nil = f j := by simp [hj]
theorem wtE_ge (e : Ex) (h : e ≠ .nil) : 1 ≤ wtE e := by
  cases e with
  | nil => exact absurd rfl h
  | mk => rw [wtE]; omega

/-- Block g is a row of these expressions, free to be written. -/
def RowOf (w : World) (g n : Nat) (x : Nat → Ex) : Prop := ∃ cur, At w g 45 cur ∧ ∀ j, j < n → ∀ i, i < 6 → cur[j * 6 + i]? = (Ex.cs (x j))[i]?
theorem RowOf.lt {w : World} {g n : Nat} {x : Nat → Ex} (h : RowOf w g n x) : g < w.heap.size := by obtain ⟨_, h, _⟩ := h; exact h.lt
theorem RowOf.cells {w : World} {g n : Nat} {x : Nat → Ex} (h : RowOf w g n x) {j : Nat} (hj : j < n) : CellsE w g (j * 6) (x j) := by
  obtain ⟨cur, hA, hc⟩ := h
  have k0 := hc j hj 0 (by omega)
  have k1 := hc j hj 1 (by omega)
  have k2 := hc j hj 2 (by omega)
  have k3 := hc j hj 3 (by omega)
  have k4 := hc j hj 4 (by omega)
  have k5 := hc j hj 5 (by omega)
  exact ⟨(hA.cell _).trans k0, (hA.cell _).trans k1, (hA.cell _).trans k2, (hA.cell _).trans k3, (hA.cell _).trans k4, (hA.cell _).trans k5⟩
theorem RowOf.unfrozen {w : World} {g n : Nat} {x : Nat → Ex} (h : RowOf w g n x) (i : Nat) : w.frozen? ⟨g, i, none⟩ = false := by obtain ⟨_, h, _⟩ := h; exact h.unfrozen i
theorem RowOf.below {w w' : World} {g n : Nat} {x : Nat → Ex} (h : RowOf w g n x) (hb : Below w.heap.size w w') : RowOf w' g n x := by
  obtain ⟨cur, hA, hc⟩ := h
  exact ⟨cur, hA.below hb hA.lt, hc⟩
theorem RowOf.put {w : World} {g n k : Nat} {x y : Nat → Ex} (h : RowOf w g n x) (hk : k < n) (A : Option Addr) (m c : Nat) (arg : Nat → Ex) (hy : ∀ j, j < n → y j = if j = k then (x k).withArgs A m c arg else x j) :
    RowOf (w.setCell ⟨g, k * 6 + 5, none⟩ (.slice A m c)) g n y := by
  obtain ⟨cur, hA, hc⟩ := h
  refine ⟨_, hA.put (k * 6 + 5) (.slice A m c), fun j hj i hi => ?_⟩
  rw [hy j hj]
  have hsz : k * 6 + 5 < cur.size := by
    have := hc k hk 5 (by omega)
    rcases Nat.lt_or_ge (k * 6 + 5) cur.size with h | h
    · exact h
    · rw [Array.getElem?_eq_none h] at this
      simp [Ex.cs] at this
  by_cases hjk : j = k
  · subst hjk
    rw [if_pos rfl]
    by_cases hi5 : i = 5
    · subst hi5
      rw [Array.getElem?_setIfInBounds_self_of_lt hsz]
      rfl
    · rw [Array.getElem?_setIfInBounds_ne (by omega), hc j hj i hi]
      match i, hi, hi5 with
      | 0, _, _ => rfl
      | 1, _, _ => rfl
      | 2, _, _ => rfl
      | 3, _, _ => rfl
      | 4, _, _ => rfl
      | 5, _, h => exact absurd rfl h
  · rw [if_neg hjk, Array.getElem?_setIfInBounds_ne (by omega), hc j hj i hi]

end Go.Proofs.Ytlkeagfmlcbogaa
