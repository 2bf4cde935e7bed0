/- 'append(b, s...)' of a string onto bytes that are owned and not nil: where the new row lies. -/
import Derived.Test.YtlkeagfmlcbogaaQMem
import Derived.Lib.AppendStr
namespace Go.Proofs.Ytlkeagfmlcbogaa
open Go.RowKit

theorem strCells_mk (l : List UInt8) : Lib.strCells ⟨l.toArray⟩ = Lib.byteCells l := by simp [Lib.strCells, Lib.byteCells]

section
variable {P : Program} {w : World}
theorem run_append_str (base : Nat) (t u ty e : TypeId) (i : TypeInfo) (ht : P.underlying t = some (.slice e)) (hu : P.underlying u = some .string) (hi : P.info? e = some i) (hz : i.zero = some (.int .u8 0))
    (hsize : i.size = 1) (hby : i.bytes = 1) (g n cap : Nat) (xs s : List UInt8) (ho : Owns w base e (.slice (some ⟨g, 0, none⟩) n cap) xs) (hs : xs.length + s.length ≤ 140737488355328) (hb : base ≤ w.heap.size) :
    ∃ g' m' cap' w', (Builtin.append_ #[t, u] ty #[.slice (some ⟨g, 0, none⟩) n cap, .string ⟨s.toArray⟩]).run P w = .ok (.slice (some ⟨g', 0, none⟩) m' cap') w' ∧
      Owns w' base e (.slice (some ⟨g', 0, none⟩) m' cap') (xs ++ s) ∧ Grew w (.slice (some ⟨g, 0, none⟩) n cap) w' (.slice (some ⟨g', 0, none⟩) m' cap') := by
  have hsz : (ByteArray.mk s.toArray).size = s.length := by simp [ByteArray.size]
  obtain ⟨v', w', hr, h2, h3, _⟩ := Lib.run_append_own_string (P := P) w base t u ty e i ht hu hi hz hsize hby _ xs.length (Lib.byteCells xs) ho ⟨s.toArray⟩ (by rw [hsz]; unfold maxLen; omega) (by rw [hsz]; omega) hb
  have hn : n = xs.length := by
    rcases ho.2 with ⟨h, _⟩ | ⟨g1, c1, cur, h, _⟩
    · cases h
    · injection h
  subst hn
  obtain ⟨cur, hg, hnc, hcs⟩ : ∃ cur, w.heap[g]? = some (.cells cur e (0, 0)) ∧ xs.length ≤ cap ∧ cur.size = cap := by
    rcases ho.2 with ⟨h, _⟩ | ⟨g1, c1, cur, h, _, h5, h6, _, h8, _⟩
    · cases h
    · injection h with h7 _ h9
      injection h7 with h7
      injection h7 with h7
      subst h7; subst h9
      exact ⟨cur, h5, h6, by simpa using h8⟩
  have key : ∃ g' m' cap', v' = .slice (some ⟨g', 0, none⟩) m' cap' ∧ (g' = g ∨ g' = w.heap.size) := by
    by_cases hroom : xs.length + (ByteArray.mk s.toArray).size ≤ cap
    · have hr2 := Lib.run_append_room_string (P := P) w t u ty e i ht hu hi hsize g xs.length cap cur hg ⟨s.toArray⟩ hroom (by omega)
      rw [hr] at hr2
      injection hr2 with h4 _
      exact ⟨_, _, _, h4, .inl rfl⟩
    · have holds := World.ownsRow.cells ho (g := g) rfl
      have hr2 := Lib.run_append_grow_string (P := P) w t u ty e i (.int .u8 0) ht hu hi hz ⟨g, 0, none⟩ xs.length cap (Lib.byteCells xs) (by rw [hsize, Lib.byteCells_length, Nat.mul_one]) holds ⟨s.toArray⟩ (by omega) (by rw [hsz]; omega)
        (by rw [hby]; exact growslice_fits (by omega) (by rw [hsz]; omega))
      rw [hr] at hr2
      injection hr2 with h4 _
      exact ⟨_, _, _, h4, .inr rfl⟩
  obtain ⟨g', m', cap', rfl, hat⟩ := key
  refine ⟨g', m', cap', w', hr, ?_, h3, fun k hk => ?_⟩
  · rw [hsz, strCells_mk, ← Lib.byteCells_append] at h2
    unfold Owns
    rw [List.length_append]
    exact h2
  · have : g' = k := Option.some.inj hk
    subst this
    rcases hat with h | h
    · exact .inl (by rw [h]; rfl)
    · exact .inr (by omega)

theorem wpList_append_str {ops : Array Oper} {rest : List Oper} {o : Oper} {a : Act} {Q : Exit → Act → World → Prop} (hgd : o.guard = none) (sl x : Operand) (t u : TypeId)
    (hop : o.op = .call { callee := .builtin .append, args := #[sl, x], argTypes := #[t, u] })
    (base : Nat) (e : TypeId) (i : TypeInfo) (ht : P.underlying t = some (.slice e)) (hu : P.underlying u = some .string) (hi : P.info? e = some i) (hz : i.zero = some (.int .u8 0))
    (hsize : i.size = 1) (hby : i.bytes = 1) (g n cap : Nat) (xs s : List UInt8) (hsl : a.eval sl = .slice (some ⟨g, 0, none⟩) n cap) (ho : Owns w base e (.slice (some ⟨g, 0, none⟩) n cap) xs)
    (hx : a.eval x = .string ⟨s.toArray⟩) (hs : xs.length + s.length ≤ 140737488355328) (hb : base ≤ w.heap.size)
    (h : ∀ g' m' cap' w', Owns w' base e (.slice (some ⟨g', 0, none⟩) m' cap') (xs ++ s) → Grew w (.slice (some ⟨g, 0, none⟩) n cap) w' (.slice (some ⟨g', 0, none⟩) m' cap') →
      wpList P ops Q rest (a.put o.dst (.slice (some ⟨g', 0, none⟩) m' cap')) w') : wpList P ops Q (o :: rest) a w := by
  obtain ⟨g', m', cap', w', hr, h2, h3⟩ := run_append_str (P := P) base t u o.type e i ht hu hi hz hsize hby g n cap xs s ho hs hb
  refine wpList_plain hgd fun K hK => ?_
  unfold Oper.wp execOp
  simp only [hop, resolve, invoke, builtin, Sem.run_bind, Sem.run_pure, Result.andThen_ok, List.map_toArray, List.map_cons, List.map_nil, hsl, hx, hr]
  exact hK _ _ (h g' m' cap' w' h2 h3)
end
end Go.Proofs.Ytlkeagfmlcbogaa
