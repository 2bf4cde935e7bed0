/- Expressions in chosen blocks; rows copied: the walks of Clone. -/
import Derived.Test.YtmlgochblmbkaaaScO
import Derived.Test.YtmlgochblmbkaaaScS
import Derived.Maps.AppendAt
import Derived.Lib.SliceRun
namespace Go.Proofs.Ytmlgochblmbkaaa
open Go.RowKit

/-- As InE, every block that is reached being one of p. -/
def InP (p : Nat → Prop) (w : World) : Ex → Prop
  | .nil => False
  | .mk op col v A n _ arg => I64 op ∧ I64 col ∧ v.Ok ∧ n ≤ maxLen ∧ (0 < n → ∃ b off, A = some ⟨b, off, none⟩ ∧ p b ∧ b < w.heap.size ∧ ∀ j, j < n → CellsE w b (off + j * 6) (arg j) ∧ InP p w (arg j))
def RowP (p : Nat → Prop) (w : World) (A : Option Addr) (n : Nat) (arg : Nat → Ex) : Prop :=
  0 < n → ∃ b off, A = some ⟨b, off, none⟩ ∧ p b ∧ b < w.heap.size ∧ ∀ j, j < n → CellsE w b (off + j * 6) (arg j) ∧ InP p w (arg j)
theorem InP.inE {p : Nat → Prop} {w : World} : ∀ {e : Ex}, InP p w e → InE w e
  | .nil, h => h
  | .mk op col v A n cap arg, h => by
    rw [InP] at h
    rw [InE]
    obtain ⟨h1, h2, h3, h4, h5⟩ := h
    refine ⟨h1, h2, h3, h4, fun hn => ?_⟩
    obtain ⟨b, off, e1, _, e2, e3⟩ := h5 hn
    exact ⟨b, off, e1, e2, fun j hj => ⟨(e3 j hj).1, (e3 j hj).2.inE⟩⟩
theorem InP.keep {p q : Nat → Prop} {w w' : World} (hs : w.heap.size ≤ w'.heap.size) (hk : ∀ b, p b → b < w.heap.size → w'.heap[b]? = w.heap[b]?) (hq : ∀ b, p b → q b) : ∀ {e : Ex}, InP p w e → InP q w' e
  | .nil, h => h
  | .mk op col v A n cap arg, h => by
    rw [InP] at h ⊢
    obtain ⟨h1, h2, h3, h4, h5⟩ := h
    refine ⟨h1, h2, h3, h4, fun hn => ?_⟩
    obtain ⟨b, off, e1, e0, e2, e3⟩ := h5 hn
    exact ⟨b, off, e1, hq b e0, Nat.lt_of_lt_of_le e2 hs, fun j hj => ⟨(e3 j hj).1.keep fun i => World.cell?_of_block (a := ⟨b, i, none⟩) (hk b e0 e2), (e3 j hj).2.keep hs hk hq⟩⟩
theorem RowP.keep {p q : Nat → Prop} {w w' : World} {A : Option Addr} {n : Nat} {arg : Nat → Ex} (h : RowP p w A n arg) (hs : w.heap.size ≤ w'.heap.size) (hk : ∀ b, p b → b < w.heap.size → w'.heap[b]? = w.heap[b]?) (hq : ∀ b, p b → q b) : RowP q w' A n arg := fun hn => by
  obtain ⟨b, off, e1, e0, e2, e3⟩ := h hn
  exact ⟨b, off, e1, hq b e0, Nat.lt_of_lt_of_le e2 hs, fun j hj => ⟨(e3 j hj).1.keep fun i => World.cell?_of_block (a := ⟨b, i, none⟩) (hk b e0 e2), (e3 j hj).2.keep hs hk hq⟩⟩
theorem RowP.rowE {p : Nat → Prop} {w : World} {A : Option Addr} {n : Nat} {arg : Nat → Ex} (h : RowP p w A n arg) : RowE w A n arg := fun hn => by
  obtain ⟨b, off, e1, _, e2, e3⟩ := h hn
  exact ⟨b, off, e1, e2, fun j hj => ⟨(e3 j hj).1, (e3 j hj).2.inE⟩⟩

theorem wp_append_at {P : Program} {ops : Array Oper} {rest : List Oper} {o : Oper} {a : Act} {Q : Exit → Act → World → Prop} {w : World} {base : Nat} {v : Value} {n : Nat} {xs : List Value} (hgd : o.guard = none) (sl x : Operand) (t : TypeId)
    (hop : o.op = .call { callee := .builtin .append, args := #[sl, x], argTypes := #[t, t] }) (e : TypeId) (size bytes : Nat) (z : Value) (ht : P.underlying t = some (.slice e))
    (hi : (P.info? e).map (fun i => (i.zero, i.size, i.bytes)) = some (some z, size, bytes)) (hzs : z.cells.size = size) (hsz : 0 < size) (h : w.ownsRow base e size v n xs) (ad : Addr) (m c : Nat) (news : List Value)
    (hsl : a.eval sl = v) (hx : a.eval x = .slice (some ad) m c) (hl : news.length = m * size) (hnews : ∀ j u, news[j]? = some u → w.cell? (ad.add j) = some u) (h1 : ∀ u ∈ news, u.oneCell' = true) (hn : n + m ≤ 1000000000) (hby : bytes ≤ 100) (hb : base ≤ w.heap.size)
    (hQ : ∀ v' w', w'.ownsRow base e size v' (n + m) (xs ++ news) → w.grownBy w' v.ownBlock → wpList P ops Q rest (a.put o.dst v') w') :
    wpList P ops Q (o :: rest) a w := by
  obtain ⟨i0, hi0, hz0, hz1, hz2⟩ := info_parts hi
  obtain ⟨v', w', hrun, h2, h3, _, _⟩ := run_append_own_at (P := P) w base t o.type e i0 z size bytes ht hi0 hz0 hz1 hz2 hzs hsz v n xs h ad m c news hl hnews h1 (by unfold maxLen; omega) (by have := Nat.mul_le_mul hn hby; omega) hb
  refine wpList_plain hgd fun K hK => ?_
  unfold Oper.wp execOp
  simp only [hop, resolve, invoke, builtin, Sem.run_bind, Sem.run_pure, Result.andThen_ok, List.map_toArray, List.map_cons, List.map_nil, hsl, hx, hrun]
  exact hK _ _ (hQ v' w' h2 h3)

theorem info_expr : (Try.prog.info? 57).map (fun i => (i.zero, i.size, i.bytes)) = some (some (.agg #[.int .i64 0, .int .i64 0, .int .i64 0, .int .i64 0, .string ⟨#[]⟩, .slice none 0 0]), 6, 72) := by kernel_rfl
theorem info_col : (Try.prog.info? 46).map (fun i => (i.zero, i.size, i.bytes)) = some (some (.agg #[.string ⟨#[]⟩, .int .i64 0, .bool false, .bool false, .string ⟨#[]⟩, .int .i64 0]), 6, 56) := by kernel_rfl
theorem add_plain (b off i : Nat) : (⟨b, off, none⟩ : Addr).add i = ⟨b, off + i, none⟩ := by unfold Addr.add; split <;> simp_all
theorem rows_news {α : Type} (f : α → List Value) (d : α) (hf : ∀ a, (f a).length = 6) (l : List α) (w : World) (b off : Nat) (h : ∀ j, j < l.length → ∀ i v, (f (l.getD j d))[i]? = some v → w.cell? ⟨b, off + j * 6 + i, none⟩ = some v) :
    ∀ j u, (l.flatMap f)[j]? = some u → w.cell? ((⟨b, off, none⟩ : Addr).add j) = some u := fun j u hu => by
  have hlen : ∀ l : List α, (l.flatMap f).length = l.length * 6 := fun l => by
    induction l with
    | nil => rfl
    | cons a r ih => rw [List.flatMap_cons, List.length_append, ih, hf, List.length_cons]; omega
  have hj : j < l.length * 6 := by rw [← hlen]; exact (List.getElem?_eq_some_iff.1 hu).1
  have e : j = j / 6 * 6 + j % 6 := by omega
  have hu' := hu
  rw [e, flat_at f 6 d hf l (j / 6) (by omega) (j % 6) (by omega)] at hu'
  have h1 := h (j / 6) (by omega) (j % 6) u hu'
  have e2 : (⟨b, off, none⟩ : Addr).add j = ⟨b, off + j / 6 * 6 + j % 6, none⟩ := by
    rw [add_plain, Nat.add_assoc, ← e]
  rw [e2]
  exact h1
theorem flat_len6 {α : Type} (f : α → List Value) (hf : ∀ a, (f a).length = 6) : ∀ l : List α, (l.flatMap f).length = l.length * 6
  | [] => rfl
  | a :: r => by rw [List.flatMap_cons, List.length_append, flat_len6 f hf r, hf, List.length_cons]; omega
theorem one_cells {α : Type} (f : α → List Value) (l : List α) (h : ∀ a, ∀ u ∈ f a, u.oneCell' = true) : ∀ u ∈ l.flatMap f, u.oneCell' = true := fun u hu => by
  obtain ⟨a, _, ha⟩ := List.mem_flatMap.1 hu
  exact h a u ha

set_option maxRecDepth 100000 in
set_option maxHeartbeats 800000 in
theorem cloneE_any (A : Option Addr) (n cap : Nat) (l : List Ex) (w : World) (hl : l.length = n) (hn : n ≤ 100000000)
    (hr : 0 < n → ∃ b off, A = some ⟨b, off, none⟩ ∧ ∀ j, j < n → ∀ i v, (Ex.cs (l.getD j .nil))[i]? = some v → w.cell? ⟨b, off + j * 6 + i, none⟩ = some v) :
    Calls Try.prog 82 #[.slice A n cap] w fun e w' => ∃ v, e = .returned v ∧ w'.ownsRow w.heap.size 57 6 v n (l.flatMap Ex.cs) ∧ Below w.heap.size w w' := by
  cases A with
  | none =>
    have h0 : n = 0 := by
      rcases Nat.eq_zero_or_pos n with h | h
      · exact h
      · obtain ⟨_, _, h1, _⟩ := hr h; cases h1
    subst h0
    obtain rfl : l = [] := List.eq_nil_of_length_eq_zero hl
    clear hr
    have hq := fun (w : World) => Lib.run_eql_slice_nil (P := Try.prog) w 23 57 none 0 cap 0 0 Try.underlying23
    go_enter Try.func82, Try.ntmps82
    go_wp2_with fail
    go_ret
    exact ⟨_, rfl, World.ownsRow_nil _ _ _ 6, Below.refl _ _⟩
  | some ad =>
    have hnews : ∀ j u, (l.flatMap Ex.cs)[j]? = some u → w.cell? (ad.add j) = some u := fun j u hu => by
      have hpos : 0 < n := by
        rcases Nat.eq_zero_or_pos n with h | h
        · obtain rfl : l = [] := List.eq_nil_of_length_eq_zero (by omega)
          simp at hu
        · exact h
      obtain ⟨b, off, e1, e2⟩ := hr hpos
      injection e1 with e1
      subst e1
      exact rows_news Ex.cs .nil (fun _ => rfl) l w b off (fun j hj i v hv => e2 j (by omega) i v hv) j u hu
    have hmade : (w.alloc (.cells #[] 57)).ownsRow w.heap.size 57 6 (.slice (some ⟨w.heap.size, 0, none⟩) 0 0) 0 [] := World.ownsRow_made w #[] 0 (Nat.le_refl _) (by unfold maxLen; omega) rfl
    have hb := below_box w (.cells #[] 57)
    have hnews' : ∀ j u, (l.flatMap Ex.cs)[j]? = some u → (w.alloc (.cells #[] 57)).cell? (ad.add j) = some u := fun j u hu => by
      have h1 := hnews j u hu
      exact (hb.cell (World.block_lt_of_cell? w _ h1)).trans h1
    clear hr hnews
    have hq := fun (w : World) => Lib.run_eql_slice_nil (P := Try.prog) w 23 57 (some ad) n cap 0 0 Try.underlying23
    go_enter Try.func82, Try.ntmps82
    go_wp2_with (at_builtin; refine wp_append_at rfl (.tmp 5) (.tmp 6) 23 rfl 57 6 72 _ Try.underlying23 info_expr rfl (by omega) hmade ad n cap (l.flatMap Ex.cs) rfl rfl (by rw [flat_len6 _ (fun _ => rfl), hl]) hnews' (one_cells _ _ (fun a u hu => by simp [Ex.cs] at hu; rcases hu with rfl | rfl | rfl | rfl | rfl | rfl <;> rfl)) (by omega) (by omega) hb.size ?_)
    intro v w2 ho hg
    have HO := Lib.hid ho
    clear ho
    go_wp2_with fail
    go_ret
    refine ⟨_, rfl, ?_, hb.grown hg hb.size (fun k hk => by simp [Value.ownBlock] at hk; omega)⟩
    exact HO.out
set_option maxRecDepth 100000 in
set_option maxHeartbeats 800000 in
theorem cloneC_any (A : Option Addr) (n cap : Nat) (l : List Co) (w : World) (hl : l.length = n) (hn : n ≤ 100000000)
    (hr : 0 < n → ∃ b off, A = some ⟨b, off, none⟩ ∧ ∀ j, j < n → ∀ i v, (Co.cs (l.getD j default))[i]? = some v → w.cell? ⟨b, off + j * 6 + i, none⟩ = some v) :
    Calls Try.prog 59 #[.slice A n cap] w fun e w' => ∃ v, e = .returned v ∧ w'.ownsRow w.heap.size 46 6 v n (l.flatMap Co.cs) ∧ Below w.heap.size w w' := by
  cases A with
  | none =>
    have h0 : n = 0 := by
      rcases Nat.eq_zero_or_pos n with h | h
      · exact h
      · obtain ⟨_, _, h1, _⟩ := hr h; cases h1
    subst h0
    obtain rfl : l = [] := List.eq_nil_of_length_eq_zero hl
    clear hr
    have hq := fun (w : World) => Lib.run_eql_slice_nil (P := Try.prog) w 22 46 none 0 cap 0 0 Try.underlying22
    go_enter Try.func59, Try.ntmps59
    go_wp2_with fail
    go_ret
    exact ⟨_, rfl, World.ownsRow_nil _ _ _ 6, Below.refl _ _⟩
  | some ad =>
    have hnews : ∀ j u, (l.flatMap Co.cs)[j]? = some u → w.cell? (ad.add j) = some u := fun j u hu => by
      have hpos : 0 < n := by
        rcases Nat.eq_zero_or_pos n with h | h
        · obtain rfl : l = [] := List.eq_nil_of_length_eq_zero (by omega)
          simp at hu
        · exact h
      obtain ⟨b, off, e1, e2⟩ := hr hpos
      injection e1 with e1
      subst e1
      exact rows_news Co.cs default (fun _ => rfl) l w b off (fun j hj i v hv => e2 j (by omega) i v hv) j u hu
    have hmade : (w.alloc (.cells #[] 46)).ownsRow w.heap.size 46 6 (.slice (some ⟨w.heap.size, 0, none⟩) 0 0) 0 [] := World.ownsRow_made w #[] 0 (Nat.le_refl _) (by unfold maxLen; omega) rfl
    have hb := below_box w (.cells #[] 46)
    have hnews' : ∀ j u, (l.flatMap Co.cs)[j]? = some u → (w.alloc (.cells #[] 46)).cell? (ad.add j) = some u := fun j u hu => by
      have h1 := hnews j u hu
      exact (hb.cell (World.block_lt_of_cell? w _ h1)).trans h1
    clear hr hnews
    have hq := fun (w : World) => Lib.run_eql_slice_nil (P := Try.prog) w 22 46 (some ad) n cap 0 0 Try.underlying22
    go_enter Try.func59, Try.ntmps59
    go_wp2_with (at_builtin; refine wp_append_at rfl (.tmp 5) (.tmp 6) 22 rfl 46 6 56 _ Try.underlying22 info_col rfl (by omega) hmade ad n cap (l.flatMap Co.cs) rfl rfl (by rw [flat_len6 _ (fun _ => rfl), hl]) hnews' (one_cells _ _ (fun a u hu => by simp [Co.cs] at hu; rcases hu with rfl | rfl | rfl | rfl | rfl | rfl <;> rfl)) (by omega) (by omega) hb.size ?_)
    intro v w2 ho hg
    have HO := Lib.hid ho
    clear ho
    go_wp2_with fail
    go_ret
    refine ⟨_, rfl, ?_, hb.grown hg hb.size (fun k hk => by simp [Value.ownBlock] at hk; omega)⟩
    exact HO.out
end Go.Proofs.Ytmlgochblmbkaaa
