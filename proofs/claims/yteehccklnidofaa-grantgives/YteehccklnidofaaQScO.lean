/- Rows of structs that a call appends to: one element more; the cells of a row. -/
import Derived.Test.YteehccklnidofaaQScG
import Derived.Test.YteehccklnidofaaQPackA
namespace Go.Proofs.Yteehccklnidofaa
open Go.RowKit

theorem wp_append1 {P : Program} {ops : Array Oper} {rest : List Oper} {o : Oper} {a : Act} {Q : Exit → Act → World → Prop} {w : World} {base : Nat} {v : Value} {n : Nat} {xs : List Value} (hgd : o.guard = none) (sl x : Operand) (t : TypeId)
    (hop : o.op = .call { callee := .builtin .append, args := #[sl, x], argTypes := #[t, t] }) (e : TypeId) (size bytes : Nat) (z : Value) (ht : P.underlying t = some (.slice e))
    (hi : (P.info? e).map (fun i => (i.zero, i.size, i.bytes)) = some (some z, size, bytes)) (hzs : z.cells.size = size) (hsz : 0 < size) (h : w.ownsRow base e size v n xs) (cs : Array Value) (ty : TypeId)
    (hsl : a.eval sl = v) {H : Nat} (hx : a.eval x = .slice (some ⟨H, 0, none⟩) 1 1) (hH : w.heap.size = H) (hcs : cs.size = size) (h1 : ∀ u ∈ cs.toList, u.oneCell' = true) (hn : n + 1 ≤ 1000000000) (hby : bytes ≤ 100) (hb : base ≤ w.heap.size)
    (hQ : ∀ g cap w', w'.ownsRow base e size (.slice (some ⟨g, 0, none⟩) (n + 1) cap) (n + 1) (xs ++ cs.toList) → Grew w v w' (.slice (some ⟨g, 0, none⟩) (n + 1) cap) → g < w'.heap.size → wpList P ops Q rest (a.put o.dst (.slice (some ⟨g, 0, none⟩) (n + 1) cap)) w') :
    wpList P ops Q (o :: rest) a (w.alloc (.cells cs ty)) := by
  subst hH
  obtain ⟨i0, hi0, hz0, hz1, hz2⟩ := info_parts hi
  have hA := At.fresh w ty cs
  have hs1 : (w.alloc (.cells cs ty)).heap.size = w.heap.size + 1 := by simp
  refine wpList_append_lies _ hgd sl x t hop base e i0 z size bytes ht hi0 hz0 hz1 hz2 hzs hsz v n xs hsl (h.alloc _) ⟨w.heap.size, 0, none⟩ 1 1 cs.toList hx (by rw [Array.length_toList, hcs, Nat.one_mul]) ?_ h1 (by omega) (by unfold maxLen; omega) ?_ (by omega) _ rfl ?_
  · intro j u hu
    have e : (⟨w.heap.size, 0, none⟩ : Addr).add j = ⟨w.heap.size, j, none⟩ := by unfold Addr.add; split <;> simp_all
    rw [e, At.cell hA j]
    simpa using hu
  · have h2 := Nat.mul_le_mul hn hby
    omega
  · intro g cap w' ho hg hat hlt
    refine hQ g cap w' ho ?_ hlt
    exact (Grew.alloc w v _).trans (Grew.append hg hat)

theorem flat_at {α : Type} (f : α → List Value) (k : Nat) (d : α) (hf : ∀ a, (f a).length = k) : ∀ (l : List α) (j : Nat), j < l.length → ∀ i, i < k → (l.flatMap f)[j * k + i]? = (f (l.getD j d))[i]?
  | [], j, h, _, _ => absurd h (by simp)
  | a :: r, 0, _, i, hi => by
    rw [List.flatMap_cons, Nat.zero_mul, Nat.zero_add, List.getElem?_append_left (by rw [hf]; exact hi)]
    rfl
  | a :: r, j + 1, h, i, hi => by
    rw [List.flatMap_cons, List.getElem?_append_right (by rw [hf, Nat.succ_mul]; omega), hf]
    rw [show (j + 1) * k + i - k = j * k + i by rw [Nat.succ_mul]; omega]
    rw [flat_at f k d hf r j (by simpa using h) i hi]
    rfl
/-- The cells of an owned row. -/
theorem own_cells {α : Type} {w : World} {base : Nat} {e : TypeId} {k : Nat} {v : Value} {n : Nat} (f : α → List Value) (d : α) (hf : ∀ a, (f a).length = k) (l : List α) (h : w.ownsRow base e k v n (l.flatMap f)) (hn : l.length = n) :
    ∃ A c, v = .slice A n c ∧ (0 < n → ∃ g, A = some ⟨g, 0, none⟩ ∧ base ≤ g ∧ g < w.heap.size ∧ ∀ j, j < n → ∀ i, i < k → w.cell? ⟨g, j * k + i, none⟩ = (f (l.getD j d))[i]?) := by
  rcases h.2 with ⟨rfl, rfl⟩ | ⟨g, cap, cur, rfl, hb, hg, _, _, _, htk⟩
  · exact ⟨none, 0, rfl, fun h => absurd h (by omega)⟩
  · refine ⟨_, cap, rfl, fun _ => ⟨g, rfl, hb, (Array.getElem?_eq_some_iff.1 hg).1, fun j hj i hi => ?_⟩⟩
    rw [cell_of_row w g _ cur e (0, 0) hg, ← flat_at f k d hf l j (by omega) i hi, ← htk, List.getElem?_take, if_pos ?_]
    · simp
    · have h1 : (j + 1) * k ≤ n * k := Nat.mul_le_mul_right k hj
      rw [Nat.succ_mul] at h1
      omega
end Go.Proofs.Yteehccklnidofaa
