/- Append of a row of grants to one's own. -/
import Derived.Test.YteehccklnidofaaGrP
import Derived.Laws.OwnMore
namespace Go.Proofs.Yteehccklnidofaa
open Go.RowKit

theorem run_append_rowG (w : World) (base : Nat) (ty : TypeId) (v : Value) (n : Nat) (xs : List Value) (h : w.ownsRow base 24 3 v n xs) (A : Option Addr) (m c : Nat) (gs : List Gr) (hr : RowG w A m gs) (hn : n + m ≤ 1000000) (hb : base ≤ w.heap.size) :
    ∃ v' w', (Builtin.append_ #[22, 22] ty #[v, .slice A m c]).run Try.prog w = .ok v' w' ∧ w'.ownsRow base 24 3 v' (n + m) (xs ++ gs.flatMap Gr.cs) ∧ w.grownBy w' v.ownBlock := by
  obtain ⟨i0, hi0, hz0, hzs, hzb⟩ := info_parts info_grant
  have hgl := hr.1
  cases A with
  | none =>
    have h0 : m = 0 := by
      rcases Nat.eq_zero_or_pos m with h | h
      · exact h
      · obtain ⟨_, _, h1, _⟩ := hr.2.2 h; cases h1
    subst h0
    obtain rfl : gs = [] := List.eq_nil_of_length_eq_zero hgl
    refine ⟨v, w, ?_, by simpa using h, World.grownBy.refl _ _⟩
    rcases h.2 with ⟨rfl, rfl⟩ | ⟨g, cap, cur, rfl, _, _, hnc, _⟩
    · simp [Builtin.append_, run_underlying (P := Try.prog) Try.underlying22, sizeOf, typeInfo, hi0, Builtin.lenOf, Builtin.firstCells]
    · simp [Builtin.append_, run_underlying (P := Try.prog) Try.underlying22, sizeOf, typeInfo, hi0, Builtin.lenOf, Builtin.firstCells, hnc, storeCells]
  | some ad =>
    have hnews : ∀ j u, (gs.flatMap Gr.cs)[j]? = some u → w.cell? (ad.add j) = some u := fun j u hu => by
      have hpos : 0 < m := by
        rcases Nat.eq_zero_or_pos m with h | h
        · obtain rfl : gs = [] := List.eq_nil_of_length_eq_zero (by omega)
          simp at hu
        · exact h
      obtain ⟨b, off, e1, e2⟩ := rowG_cells hr hpos
      injection e1 with e1
      subst e1
      exact rows_news3 Gr.cs default (fun _ => rfl) gs w b off (fun j hj i v hv => e2 j (by omega) i v hv) j u hu
    obtain ⟨v', w', hrun, h2, h3, _, _⟩ := run_append_own_at (P := Try.prog) w base 22 ty 24 i0 _ 3 32 Try.underlying22 hi0 hz0 hzs hzb rfl (by omega) v n xs h ad m c (gs.flatMap Gr.cs) (by rw [flat_len3 _ (fun _ => rfl), hgl]) hnews (one_cells _ _ (fun a u hu => by simp [Gr.cs] at hu; rcases hu with rfl | rfl | rfl <;> rfl)) (by unfold maxLen; omega) (by omega) hb
    exact ⟨v', w', hrun, h2, h3⟩
theorem wp_append_rowG {ops : Array Oper} {rest : List Oper} {o : Oper} {a : Act} {Q : Exit → Act → World → Prop} {w : World} {base : Nat} {v : Value} {n : Nat} {xs : List Value} (hgd : o.guard = none) (sl x : Operand)
    (hop : o.op = .call { callee := .builtin .append, args := #[sl, x], argTypes := #[22, 22] }) (h : w.ownsRow base 24 3 v n xs) (A : Option Addr) (m c : Nat) (gs : List Gr) (hr : RowG w A m gs)
    (hsl : a.eval sl = v) (hx : a.eval x = .slice A m c) (hn : n + m ≤ 1000000) (hb : base ≤ w.heap.size)
    (hQ : ∀ v' w', w'.ownsRow base 24 3 v' (n + m) (xs ++ gs.flatMap Gr.cs) → w.grownBy w' v.ownBlock → wpList Try.prog ops Q rest (a.put o.dst v') w') :
    wpList Try.prog ops Q (o :: rest) a w := by
  obtain ⟨v', w', hrun, h2, h3⟩ := run_append_rowG w base o.type v n xs h A m c gs hr hn hb
  refine wpList_plain hgd fun K hK => ?_
  unfold Oper.wp execOp
  simp only [hop, resolve, invoke, builtin, Sem.run_bind, Sem.run_pure, Result.andThen_ok, List.map_toArray, List.map_cons, List.map_nil, hsl, hx, hrun]
  exact hK _ _ (hQ v' w' h2 h3)
end Go.Proofs.Yteehccklnidofaa
