/- Expressions in chosen blocks; rows copied: the walks of Clone. -/
/- The walks of copyExprs, copyTable and Find. -/
/- The walks of copyTable and Find. -/
import Derived.Test.YtlkeagfmlcbogaaQScO
import Derived.Test.YtlkeagfmlcbogaaQScS
import Derived.Maps.AppendAt
import Derived.Lib.SliceRun
namespace Go.Proofs.Ytlkeagfmlcbogaa
open Go.RowKit

/-- As InE, every block that is reached being one of p. -/
def InP (p : Nat → Prop) (w : World) : Ex → Prop
  | .nil => False
  | .mk op col v A n _ arg => I64 op ∧ I64 col ∧ v.Ok ∧ n ≤ maxLen ∧ (0 < n → ∃ b off, A = some ⟨b, off, none⟩ ∧ p b ∧ b < w.heap.size ∧ ∀ j, j < n → CellsE w b (off + j * 6) (arg j) ∧ InP p w (arg j))
def RowP (p : Nat → Prop) (w : World) (A : Option Addr) (n : Nat) (arg : Nat → Ex) : Prop :=
  0 < n → ∃ b off, A = some ⟨b, off, none⟩ ∧ p b ∧ b < w.heap.size ∧ ∀ j, j < n → CellsE w b (off + j * 6) (arg j) ∧ InP p w (arg j)
theorem InP.inE {p : Nat → Prop} {w : World} : ∀ {e : Ex}, InP p w e → InE w e
  | .nil, h => h
  | .mk op col v A n cap arg, h => by
    rw [InP] at h
    rw [InE]
    obtain ⟨h1, h2, h3, h4, h5⟩ := h
    refine ⟨h1, h2, h3, h4, fun hn => ?_⟩
    obtain ⟨b, off, e1, _, e2, e3⟩ := h5 hn
    exact ⟨b, off, e1, e2, fun j hj => ⟨(e3 j hj).1, (e3 j hj).2.inE⟩⟩
theorem InP.keep {p q : Nat → Prop} {w w' : World} (hs : w.heap.size ≤ w'.heap.size) (hk : ∀ b, p b → b < w.heap.size → w'.heap[b]? = w.heap[b]?) (hq : ∀ b, p b → q b) : ∀ {e : Ex}, InP p w e → InP q w' e
  | .nil, h => h
  | .mk op col v A n cap arg, h => by
    rw [InP] at h ⊢
    obtain ⟨h1, h2, h3, h4, h5⟩ := h
    refine ⟨h1, h2, h3, h4, fun hn => ?_⟩
    obtain ⟨b, off, e1, e0, e2, e3⟩ := h5 hn
    exact ⟨b, off, e1, hq b e0, Nat.lt_of_lt_of_le e2 hs, fun j hj => ⟨(e3 j hj).1.keep fun i => World.cell?_of_block (a := ⟨b, i, none⟩) (hk b e0 e2), (e3 j hj).2.keep hs hk hq⟩⟩
theorem RowP.keep {p q : Nat → Prop} {w w' : World} {A : Option Addr} {n : Nat} {arg : Nat → Ex} (h : RowP p w A n arg) (hs : w.heap.size ≤ w'.heap.size) (hk : ∀ b, p b → b < w.heap.size → w'.heap[b]? = w.heap[b]?) (hq : ∀ b, p b → q b) : RowP q w' A n arg := fun hn => by
  obtain ⟨b, off, e1, e0, e2, e3⟩ := h hn
  exact ⟨b, off, e1, hq b e0, Nat.lt_of_lt_of_le e2 hs, fun j hj => ⟨(e3 j hj).1.keep fun i => World.cell?_of_block (a := ⟨b, i, none⟩) (hk b e0 e2), (e3 j hj).2.keep hs hk hq⟩⟩
theorem RowP.rowE {p : Nat → Prop} {w : World} {A : Option Addr} {n : Nat} {arg : Nat → Ex} (h : RowP p w A n arg) : RowE w A n arg := fun hn => by
  obtain ⟨b, off, e1, _, e2, e3⟩ := h hn
  exact ⟨b, off, e1, e2, fun j hj => ⟨(e3 j hj).1, (e3 j hj).2.inE⟩⟩

theorem wp_append_at {P : Program} {ops : Array Oper} {rest : List Oper} {o : Oper} {a : Act} {Q : Exit → Act → World → Prop} {w : World} {base : Nat} {v : Value} {n : Nat} {xs : List Value} (hgd : o.guard = none) (sl x : Operand) (t : TypeId)
    (hop : o.op = .call { callee := .builtin .append, args := #[sl, x], argTypes := #[t, t] }) (e : TypeId) (size bytes : Nat) (z : Value) (ht : P.underlying t = some (.slice e))
    (hi : (P.info? e).map (fun i => (i.zero, i.size, i.bytes)) = some (some z, size, bytes)) (hzs : z.cells.size = size) (hsz : 0 < size) (h : w.ownsRow base e size v n xs) (ad : Addr) (m c : Nat) (news : List Value)
    (hsl : a.eval sl = v) (hx : a.eval x = .slice (some ad) m c) (hl : news.length = m * size) (hnews : ∀ j u, news[j]? = some u → w.cell? (ad.add j) = some u) (h1 : ∀ u ∈ news, u.oneCell' = true) (hn : n + m ≤ 1000000000) (hby : bytes ≤ 100) (hb : base ≤ w.heap.size)
    (hQ : ∀ v' w', w'.ownsRow base e size v' (n + m) (xs ++ news) → w.grownBy w' v.ownBlock → wpList P ops Q rest (a.put o.dst v') w') :
    wpList P ops Q (o :: rest) a w := by
  obtain ⟨i0, hi0, hz0, hz1, hz2⟩ := info_parts hi
  obtain ⟨v', w', hrun, h2, h3, _, _⟩ := run_append_own_at (P := P) w base t o.type e i0 z size bytes ht hi0 hz0 hz1 hz2 hzs hsz v n xs h ad m c news hl hnews h1 (by unfold maxLen; omega) (by have := Nat.mul_le_mul hn hby; omega) hb
  refine wpList_plain hgd fun K hK => ?_
  unfold Oper.wp execOp
  simp only [hop, resolve, invoke, builtin, Sem.run_bind, Sem.run_pure, Result.andThen_ok, List.map_toArray, List.map_cons, List.map_nil, hsl, hx, hrun]
  exact hK _ _ (hQ v' w' h2 h3)

theorem info_expr : (Try.prog.info? 45).map (fun i => (i.zero, i.size, i.bytes)) = some (some (.agg #[.int .i64 0, .int .i64 0, .int .i64 0, .int .i64 0, .string ⟨#[]⟩, .slice none 0 0]), 6, 72) := by kernel_rfl
theorem info_col : (Try.prog.info? 35).map (fun i => (i.zero, i.size, i.bytes)) = some (some (.agg #[.string ⟨#[]⟩, .int .i64 0, .bool false, .bool false, .string ⟨#[]⟩, .int .i64 0]), 6, 56) := by kernel_rfl
theorem add_plain (b off i : Nat) : (⟨b, off, none⟩ : Addr).add i = ⟨b, off + i, none⟩ := by unfold Addr.add; split <;> simp_all
theorem rows_news {α : Type} (f : α → List Value) (d : α) (hf : ∀ a, (f a).length = 6) (l : List α) (w : World) (b off : Nat) (h : ∀ j, j < l.length → ∀ i v, (f (l.getD j d))[i]? = some v → w.cell? ⟨b, off + j * 6 + i, none⟩ = some v) :
    ∀ j u, (l.flatMap f)[j]? = some u → w.cell? ((⟨b, off, none⟩ : Addr).add j) = some u := fun j u hu => by
  have hlen : ∀ l : List α, (l.flatMap f).length = l.length * 6 := fun l => by
    induction l with
    | nil => rfl
    | cons a r ih => rw [List.flatMap_cons, List.length_append, ih, hf, List.length_cons]; omega
  have hj : j < l.length * 6 := by rw [← hlen]; exact (List.getElem?_eq_some_iff.1 hu).1
  have e : j = j / 6 * 6 + j % 6 := by omega
  have hu' := hu
  rw [e, flat_at f 6 d hf l (j / 6) (by omega) (j % 6) (by omega)] at hu'
  have h1 := h (j / 6) (by omega) (j % 6) u hu'
  have e2 : (⟨b, off, none⟩ : Addr).add j = ⟨b, off + j / 6 * 6 + j % 6, none⟩ := by
    rw [add_plain, Nat.add_assoc, ← e]
  rw [e2]
  exact h1
theorem flat_len6 {α : Type} (f : α → List Value) (hf : ∀ a, (f a).length = 6) : ∀ l : List α, (l.flatMap f).length = l.length * 6
  | [] => rfl
  | a :: r => by rw [List.flatMap_cons, List.length_append, flat_len6 f hf r, hf, List.length_cons]; omega
theorem one_cells {α : Type} (f : α → List Value) (l : List α) (h : ∀ a, ∀ u ∈ f a, u.oneCell' = true) : ∀ u ∈ l.flatMap f, u.oneCell' = true := fun u hu => by
  obtain ⟨a, _, ha⟩ := List.mem_flatMap.1 hu
  exact h a u ha

end Go.Proofs.Ytlkeagfmlcbogaa

namespace Go.Proofs.Ytlkeagfmlcbogaa
open Go.RowKit

/-- Another slice for the operands. -/
def Ex.withArgs (e : Ex) (A : Option Addr) (n cap : Nat) (arg : Nat → Ex) : Ex := .mk e.op e.col e.v A n cap arg
theorem own_block {α : Type} {w : World} {base : Nat} {e : TypeId} {v : Value} {n : Nat} (f : α → List Value) (d : α) (hf : ∀ a, (f a).length = 6) (l : List α) (h : w.ownsRow base e 6 v n (l.flatMap f)) (hn : l.length = n) (h0 : 0 < n) :
    ∃ g c cur, v = .slice (some ⟨g, 0, none⟩) n c ∧ base ≤ g ∧ At w g e cur ∧ ∀ j, j < n → ∀ i, i < 6 → cur[j * 6 + i]? = (f (l.getD j d))[i]? := by
  rcases h.2 with ⟨rfl, rfl⟩ | ⟨g, cap, cur, rfl, hb, hg, _, _, _, htk⟩
  · omega
  · refine ⟨g, cap, cur, rfl, hb, hg, fun j hj i hi => ?_⟩
    rw [← flat_at f 6 d hf l j (by omega) i hi, ← htk, List.getElem?_take, if_pos (by omega)]
    simp
theorem getD_fn (n : Nat) (f : Nat → Ex) (j : Nat) (hj : j < n) : ((List.range n).map f).getD j .nil = f j := by simp [hj]
theorem wtE_ge (e : Ex) (h : e ≠ .nil) : 1 ≤ wtE e := by
  cases e with
  | nil => exact absurd rfl h
  | mk => rw [wtE]; omega

/-- Block g is a row of these expressions, free to be written. -/
def RowOf (w : World) (g n : Nat) (x : Nat → Ex) : Prop := ∃ cur, At w g 45 cur ∧ ∀ j, j < n → ∀ i, i < 6 → cur[j * 6 + i]? = (Ex.cs (x j))[i]?
theorem RowOf.lt {w : World} {g n : Nat} {x : Nat → Ex} (h : RowOf w g n x) : g < w.heap.size := by obtain ⟨_, h, _⟩ := h; exact h.lt
theorem RowOf.cells {w : World} {g n : Nat} {x : Nat → Ex} (h : RowOf w g n x) {j : Nat} (hj : j < n) : CellsE w g (j * 6) (x j) := by
  obtain ⟨cur, hA, hc⟩ := h
  have k0 := hc j hj 0 (by omega)
  have k1 := hc j hj 1 (by omega)
  have k2 := hc j hj 2 (by omega)
  have k3 := hc j hj 3 (by omega)
  have k4 := hc j hj 4 (by omega)
  have k5 := hc j hj 5 (by omega)
  exact ⟨(hA.cell _).trans k0, (hA.cell _).trans k1, (hA.cell _).trans k2, (hA.cell _).trans k3, (hA.cell _).trans k4, (hA.cell _).trans k5⟩
theorem RowOf.unfrozen {w : World} {g n : Nat} {x : Nat → Ex} (h : RowOf w g n x) (i : Nat) : w.frozen? ⟨g, i, none⟩ = false := by obtain ⟨_, h, _⟩ := h; exact h.unfrozen i
theorem RowOf.below {w w' : World} {g n : Nat} {x : Nat → Ex} (h : RowOf w g n x) (hb : Below w.heap.size w w') : RowOf w' g n x := by
  obtain ⟨cur, hA, hc⟩ := h
  exact ⟨cur, hA.below hb hA.lt, hc⟩
theorem RowOf.put {w : World} {g n k : Nat} {x y : Nat → Ex} (h : RowOf w g n x) (hk : k < n) (A : Option Addr) (m c : Nat) (arg : Nat → Ex) (hy : ∀ j, j < n → y j = if j = k then (x k).withArgs A m c arg else x j) :
    RowOf (w.setCell ⟨g, k * 6 + 5, none⟩ (.slice A m c)) g n y := by
  obtain ⟨cur, hA, hc⟩ := h
  refine ⟨_, hA.put (k * 6 + 5) (.slice A m c), fun j hj i hi => ?_⟩
  rw [hy j hj]
  have hsz : k * 6 + 5 < cur.size := by
    have := hc k hk 5 (by omega)
    rcases Nat.lt_or_ge (k * 6 + 5) cur.size with h | h
    · exact h
    · rw [Array.getElem?_eq_none h] at this
      simp [Ex.cs] at this
  by_cases hjk : j = k
  · subst hjk
    rw [if_pos rfl]
    by_cases hi5 : i = 5
    · subst hi5
      rw [Array.getElem?_setIfInBounds_self_of_lt hsz]
      rfl
    · rw [Array.getElem?_setIfInBounds_ne (by omega), hc j hj i hi]
      match i, hi, hi5 with
      | 0, _, _ => rfl
      | 1, _, _ => rfl
      | 2, _, _ => rfl
      | 3, _, _ => rfl
      | 4, _, _ => rfl
      | 5, _, h => exact absurd rfl h
  · rw [if_neg hjk, Array.getElem?_setIfInBounds_ne (by omega), hc j hj i hi]

end Go.Proofs.Ytlkeagfmlcbogaa

namespace Go.Proofs.Ytlkeagfmlcbogaa
open Go.RowKit

theorem RowC.of_own {w : World} {base : Nat} {v : Value} {n : Nat} {cs : List Co} (h : w.ownsRow base 35 6 v n (cs.flatMap Co.cs)) (hn : cs.length = n) (hok : ∀ c ∈ cs, c.Ok) :
    ∃ A c, v = .slice A n c ∧ RowC w A n cs ∧ (0 < n → ∃ g, A = some ⟨g, 0, none⟩ ∧ base ≤ g ∧ g < w.heap.size) := by
  obtain ⟨A, c, rfl, hc⟩ := own_cells Co.cs default (fun _ => rfl) cs h hn
  refine ⟨A, c, rfl, ⟨hn, hok, fun h0 => ?_⟩, fun h0 => ?_⟩
  · obtain ⟨g, e1, e2, e3, e4⟩ := hc h0
    refine ⟨g, 0, e1, e3, fun j hj => ?_⟩
    rw [Nat.zero_add]
    exact ⟨e4 j hj 0 (by omega), e4 j hj 1 (by omega), e4 j hj 2 (by omega), e4 j hj 3 (by omega), e4 j hj 4 (by omega), e4 j hj 5 (by omega)⟩
  · obtain ⟨g, e1, e2, e3, e4⟩ := hc h0
    exact ⟨g, e1, e2, e3⟩
theorem RowC.move {w w' : World} {A : Option Addr} {n base : Nat} {cs : List Co} (h : RowC w A n cs) (hA : 0 < n → ∃ g, A = some ⟨g, 0, none⟩ ∧ base ≤ g ∧ g < w.heap.size) (hs : w.heap.size ≤ w'.heap.size) (hk : ∀ b, base ≤ b → b < w.heap.size → w'.heap[b]? = w.heap[b]?) : RowC w' A n cs :=
  ⟨h.1, h.2.1, fun hn => by
    obtain ⟨b, off, e1, e2, e3⟩ := h.2.2 hn
    obtain ⟨g, f1, f2, f3⟩ := hA hn
    rw [e1] at f1
    have hbg : b = g := by injection f1 with f1; injection f1
    subst hbg
    exact ⟨b, off, e1, Nat.lt_of_lt_of_le e2 hs, fun j hj => (e3 j hj).keep fun i => World.cell?_of_block (a := ⟨b, i, none⟩) (hk b f2 f3)⟩⟩

end Go.Proofs.Ytlkeagfmlcbogaa
