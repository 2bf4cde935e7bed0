/- Expressions in chosen blocks; rows copied: the walks of Clone. -/
/- takeList for columns and grants. -/
/- takeList for expressions: the function value's contract is a premise. -/
/- takeExpr by levels; takeCheck. -/
/- The walks of copyExprs, copyTable and Find. -/
import Derived.Test.YtnhalfdddcjicaaGreatQJam
import Derived.Maps.AppendAt
import Derived.Lib.SliceRun
import Derived.Test.YtnhalfdddcjicaaGreatQJal
namespace Go.Proofs.YtnhalfdddcjicaaGreat
open Go.RowKit

/-- As InE, every block that is reached being one of p. -/
def InP (p : Nat → Prop) (w : World) : Ex → Prop
  | .nil => False
  | .mk op col v A n _ arg => I64 op ∧ I64 col ∧ v.Ok ∧ n ≤ maxLen ∧ (0 < n → ∃ b off, A = some ⟨b, off, none⟩ ∧ p b ∧ b < w.heap.size ∧ ∀ j, j < n → CellsE w b (off + j * 6) (arg j) ∧ InP p w (arg j))
def RowP (p : Nat → Prop) (w : World) (A : Option Addr) (n : Nat) (arg : Nat → Ex) : Prop :=
  0 < n → ∃ b off, A = some ⟨b, off, none⟩ ∧ p b ∧ b < w.heap.size ∧ ∀ j, j < n → CellsE w b (off + j * 6) (arg j) ∧ InP p w (arg j)
theorem InP.inE {p : Nat → Prop} {w : World} : ∀ {e : Ex}, InP p w e → InE w e
  | .nil, h => h
  | .mk op col v A n cap arg, h => by
    rw [InP] at h
    rw [InE]
    obtain ⟨h1, h2, h3, h4, h5⟩ := h
    refine ⟨h1, h2, h3, h4, fun hn => ?_⟩
    obtain ⟨b, off, e1, _, e2, e3⟩ := h5 hn
    exact ⟨b, off, e1, e2, fun j hj => ⟨(e3 j hj).1, (e3 j hj).2.inE⟩⟩
theorem InP.keep {p q : Nat → Prop} {w w' : World} (hs : w.heap.size ≤ w'.heap.size) (hk : ∀ b, p b → b < w.heap.size → w'.heap[b]? = w.heap[b]?) (hq : ∀ b, p b → q b) : ∀ {e : Ex}, InP p w e → InP q w' e
  | .nil, h => h
  | .mk op col v A n cap arg, h => by
    rw [InP] at h ⊢
    obtain ⟨h1, h2, h3, h4, h5⟩ := h
    refine ⟨h1, h2, h3, h4, fun hn => ?_⟩
    obtain ⟨b, off, e1, e0, e2, e3⟩ := h5 hn
    exact ⟨b, off, e1, hq b e0, Nat.lt_of_lt_of_le e2 hs, fun j hj => ⟨(e3 j hj).1.keep fun i => World.cell?_of_block (a := ⟨b, i, none⟩) (hk b e0 e2), (e3 j hj).2.keep hs hk hq⟩⟩
theorem RowP.keep {p q : Nat → Prop} {w w' : World} {A : Option Addr} {n : Nat} {arg : Nat → Ex} (h : RowP p w A n arg) (hs : w.heap.size ≤ w'.heap.size) (hk : ∀ b, p b → b < w.heap.size → w'.heap[b]? = w.heap[b]?) (hq : ∀ b, p b → q b) : RowP q w' A n arg := fun hn => by
  obtain ⟨b, off, e1, e0, e2, e3⟩ := h hn
  exact ⟨b, off, e1, hq b e0, Nat.lt_of_lt_of_le e2 hs, fun j hj => ⟨(e3 j hj).1.keep fun i => World.cell?_of_block (a := ⟨b, i, none⟩) (hk b e0 e2), (e3 j hj).2.keep hs hk hq⟩⟩
theorem RowP.rowE {p : Nat → Prop} {w : World} {A : Option Addr} {n : Nat} {arg : Nat → Ex} (h : RowP p w A n arg) : RowE w A n arg := fun hn => by
  obtain ⟨b, off, e1, _, e2, e3⟩ := h hn
  exact ⟨b, off, e1, e2, fun j hj => ⟨(e3 j hj).1, (e3 j hj).2.inE⟩⟩

theorem wp_append_at {P : Program} {ops : Array Oper} {rest : List Oper} {o : Oper} {a : Act} {Q : Exit → Act → World → Prop} {w : World} {base : Nat} {v : Value} {n : Nat} {xs : List Value} (hgd : o.guard = none) (sl x : Operand) (t : TypeId)
    (hop : o.op = .call { callee := .builtin .append, args := #[sl, x], argTypes := #[t, t] }) (e : TypeId) (size bytes : Nat) (z : Value) (ht : P.underlying t = some (.slice e))
    (hi : (P.info? e).map (fun i => (i.zero, i.size, i.bytes)) = some (some z, size, bytes)) (hzs : z.cells.size = size) (hsz : 0 < size) (h : w.ownsRow base e size v n xs) (ad : Addr) (m c : Nat) (news : List Value)
    (hsl : a.eval sl = v) (hx : a.eval x = .slice (some ad) m c) (hl : news.length = m * size) (hnews : ∀ j u, news[j]? = some u → w.cell? (ad.add j) = some u) (h1 : ∀ u ∈ news, u.oneCell' = true) (hn : n + m ≤ 1000000000) (hby : bytes ≤ 100) (hb : base ≤ w.heap.size)
    (hQ : ∀ v' w', w'.ownsRow base e size v' (n + m) (xs ++ news) → w.grownBy w' v.ownBlock → wpList P ops Q rest (a.put o.dst v') w') :
    wpList P ops Q (o :: rest) a w := by
  obtain ⟨i0, hi0, hz0, hz1, hz2⟩ := info_parts hi
  obtain ⟨v', w', hrun, h2, h3, _, _⟩ := run_append_own_at (P := P) w base t o.type e i0 z size bytes ht hi0 hz0 hz1 hz2 hzs hsz v n xs h ad m c news hl hnews h1 (by unfold maxLen; omega) (by have := Nat.mul_le_mul hn hby; omega) hb
  refine wpList_plain hgd fun K hK => ?_
  unfold Oper.wp execOp
  simp only [hop, resolve, invoke, builtin, Sem.run_bind, Sem.run_pure, Result.andThen_ok, List.map_toArray, List.map_cons, List.map_nil, hsl, hx, hrun]
  exact hK _ _ (hQ v' w' h2 h3)

theorem info_expr : (Tryz.prog.info? 67).map (fun i => (i.zero, i.size, i.bytes)) = some (some (.agg #[.int .i64 0, .int .i64 0, .int .i64 0, .int .i64 0, .string ⟨#[]⟩, .slice none 0 0]), 6, 72) := by kernel_rfl
theorem info_col : (Tryz.prog.info? 54).map (fun i => (i.zero, i.size, i.bytes)) = some (some (.agg #[.string ⟨#[]⟩, .int .i64 0, .bool false, .bool false, .string ⟨#[]⟩, .int .i64 0]), 6, 56) := by kernel_rfl
theorem add_plain (b off i : Nat) : (⟨b, off, none⟩ : Addr).add i = ⟨b, off + i, none⟩ := by unfold Addr.add; split <;> simp_all
theorem rows_news {α : Type} (f : α → List Value) (d : α) (hf : ∀ a, (f a).length = 6) (l : List α) (w : World) (b off : Nat) (h : ∀ j, j < l.length → ∀ i v, (f (l.getD j d))[i]? = some v → w.cell? ⟨b, off + j * 6 + i, none⟩ = some v) :
    ∀ j u, (l.flatMap f)[j]? = some u → w.cell? ((⟨b, off, none⟩ : Addr).add j) = some u := fun j u hu => by
  have hlen : ∀ l : List α, (l.flatMap f).length = l.length * 6 := fun l => by
    induction l with
    | nil => rfl
    | cons a r ih => rw [List.flatMap_cons, List.length_append, ih, hf, List.length_cons]; omega
  have hj : j < l.length * 6 := by rw [← hlen]; exact (List.getElem?_eq_some_iff.1 hu).1
  have e : j = j / 6 * 6 + j % 6 := by omega
  have hu' := hu
  rw [e, flat_at f 6 d hf l (j / 6) (by omega) (j % 6) (by omega)] at hu'
  have h1 := h (j / 6) (by omega) (j % 6) u hu'
  have e2 : (⟨b, off, none⟩ : Addr).add j = ⟨b, off + j / 6 * 6 + j % 6, none⟩ := by
    rw [add_plain, Nat.add_assoc, ← e]
  rw [e2]
  exact h1
theorem flat_len6 {α : Type} (f : α → List Value) (hf : ∀ a, (f a).length = 6) : ∀ l : List α, (l.flatMap f).length = l.length * 6
  | [] => rfl
  | a :: r => by rw [List.flatMap_cons, List.length_append, flat_len6 f hf r, hf, List.length_cons]; omega
theorem one_cells {α : Type} (f : α → List Value) (l : List α) (h : ∀ a, ∀ u ∈ f a, u.oneCell' = true) : ∀ u ∈ l.flatMap f, u.oneCell' = true := fun u hu => by
  obtain ⟨a, _, ha⟩ := List.mem_flatMap.1 hu
  exact h a u ha

set_option maxRecDepth 100000 in
set_option maxHeartbeats 800000 in
theorem cloneE_any (A : Option Addr) (n cap : Nat) (l : List Ex) (w : World) (hl : l.length = n) (hn : n ≤ 100000000)
    (hr : 0 < n → ∃ b off, A = some ⟨b, off, none⟩ ∧ ∀ j, j < n → ∀ i v, (Ex.cs (l.getD j .nil))[i]? = some v → w.cell? ⟨b, off + j * 6 + i, none⟩ = some v) :
    Calls Tryz.prog 135 #[.slice A n cap] w fun e w' => ∃ v, e = .returned v ∧ w'.ownsRow w.heap.size 67 6 v n (l.flatMap Ex.cs) ∧ Below w.heap.size w w' := by
  cases A with
  | none =>
    have h0 : n = 0 := by
      rcases Nat.eq_zero_or_pos n with h | h
      · exact h
      · obtain ⟨_, _, h1, _⟩ := hr h; cases h1
    subst h0
    obtain rfl : l = [] := List.eq_nil_of_length_eq_zero hl
    clear hr
    have hq := fun (w : World) => Lib.run_eql_slice_nil (P := Tryz.prog) w 30 67 none 0 cap 0 0 Tryz.underlying30
    go_enter Tryz.func135, Tryz.ntmps135
    go_wp2_with fail
    go_ret
    exact ⟨_, rfl, World.ownsRow_nil _ _ _ 6, Below.refl _ _⟩
  | some ad =>
    have hnews : ∀ j u, (l.flatMap Ex.cs)[j]? = some u → w.cell? (ad.add j) = some u := fun j u hu => by
      have hpos : 0 < n := by
        rcases Nat.eq_zero_or_pos n with h | h
        · obtain rfl : l = [] := List.eq_nil_of_length_eq_zero (by omega)
          simp at hu
        · exact h
      obtain ⟨b, off, e1, e2⟩ := hr hpos
      injection e1 with e1
      subst e1
      exact rows_news Ex.cs .nil (fun _ => rfl) l w b off (fun j hj i v hv => e2 j (by omega) i v hv) j u hu
    have hmade : (w.alloc (.cells #[] 67)).ownsRow w.heap.size 67 6 (.slice (some ⟨w.heap.size, 0, none⟩) 0 0) 0 [] := World.ownsRow_made w #[] 0 (Nat.le_refl _) (by unfold maxLen; omega) rfl
    have hb := below_box w (.cells #[] 67)
    have hnews' : ∀ j u, (l.flatMap Ex.cs)[j]? = some u → (w.alloc (.cells #[] 67)).cell? (ad.add j) = some u := fun j u hu => by
      have h1 := hnews j u hu
      exact (hb.cell (World.block_lt_of_cell? w _ h1)).trans h1
    clear hr hnews
    have hq := fun (w : World) => Lib.run_eql_slice_nil (P := Tryz.prog) w 30 67 (some ad) n cap 0 0 Tryz.underlying30
    go_enter Tryz.func135, Tryz.ntmps135
    go_wp2_with (at_builtin; refine wp_append_at rfl (.tmp 5) (.tmp 6) 30 rfl 67 6 72 _ Tryz.underlying30 info_expr rfl (by omega) hmade ad n cap (l.flatMap Ex.cs) rfl rfl (by rw [flat_len6 _ (fun _ => rfl), hl]) hnews' (one_cells _ _ (fun a u hu => by simp [Ex.cs] at hu; rcases hu with rfl | rfl | rfl | rfl | rfl | rfl <;> rfl)) (by omega) (by omega) hb.size ?_)
    intro v w2 ho hg
    have HO := Lib.hid ho
    clear ho
    go_wp2_with fail
    go_ret
    refine ⟨_, rfl, ?_, hb.grown hg hb.size (fun k hk => by simp [Value.ownBlock] at hk; omega)⟩
    exact HO.out
set_option maxRecDepth 100000 in
set_option maxHeartbeats 800000 in
theorem cloneC_any (A : Option Addr) (n cap : Nat) (l : List Co) (w : World) (hl : l.length = n) (hn : n ≤ 100000000)
    (hr : 0 < n → ∃ b off, A = some ⟨b, off, none⟩ ∧ ∀ j, j < n → ∀ i v, (Co.cs (l.getD j default))[i]? = some v → w.cell? ⟨b, off + j * 6 + i, none⟩ = some v) :
    Calls Tryz.prog 120 #[.slice A n cap] w fun e w' => ∃ v, e = .returned v ∧ w'.ownsRow w.heap.size 54 6 v n (l.flatMap Co.cs) ∧ Below w.heap.size w w' := by
  cases A with
  | none =>
    have h0 : n = 0 := by
      rcases Nat.eq_zero_or_pos n with h | h
      · exact h
      · obtain ⟨_, _, h1, _⟩ := hr h; cases h1
    subst h0
    obtain rfl : l = [] := List.eq_nil_of_length_eq_zero hl
    clear hr
    have hq := fun (w : World) => Lib.run_eql_slice_nil (P := Tryz.prog) w 29 54 none 0 cap 0 0 Tryz.underlying29
    go_enter Tryz.func120, Tryz.ntmps120
    go_wp2_with fail
    go_ret
    exact ⟨_, rfl, World.ownsRow_nil _ _ _ 6, Below.refl _ _⟩
  | some ad =>
    have hnews : ∀ j u, (l.flatMap Co.cs)[j]? = some u → w.cell? (ad.add j) = some u := fun j u hu => by
      have hpos : 0 < n := by
        rcases Nat.eq_zero_or_pos n with h | h
        · obtain rfl : l = [] := List.eq_nil_of_length_eq_zero (by omega)
          simp at hu
        · exact h
      obtain ⟨b, off, e1, e2⟩ := hr hpos
      injection e1 with e1
      subst e1
      exact rows_news Co.cs default (fun _ => rfl) l w b off (fun j hj i v hv => e2 j (by omega) i v hv) j u hu
    have hmade : (w.alloc (.cells #[] 54)).ownsRow w.heap.size 54 6 (.slice (some ⟨w.heap.size, 0, none⟩) 0 0) 0 [] := World.ownsRow_made w #[] 0 (Nat.le_refl _) (by unfold maxLen; omega) rfl
    have hb := below_box w (.cells #[] 54)
    have hnews' : ∀ j u, (l.flatMap Co.cs)[j]? = some u → (w.alloc (.cells #[] 54)).cell? (ad.add j) = some u := fun j u hu => by
      have h1 := hnews j u hu
      exact (hb.cell (World.block_lt_of_cell? w _ h1)).trans h1
    clear hr hnews
    have hq := fun (w : World) => Lib.run_eql_slice_nil (P := Tryz.prog) w 29 54 (some ad) n cap 0 0 Tryz.underlying29
    go_enter Tryz.func120, Tryz.ntmps120
    go_wp2_with (at_builtin; refine wp_append_at rfl (.tmp 5) (.tmp 6) 29 rfl 54 6 56 _ Tryz.underlying29 info_col rfl (by omega) hmade ad n cap (l.flatMap Co.cs) rfl rfl (by rw [flat_len6 _ (fun _ => rfl), hl]) hnews' (one_cells _ _ (fun a u hu => by simp [Co.cs] at hu; rcases hu with rfl | rfl | rfl | rfl | rfl | rfl <;> rfl)) (by omega) (by omega) hb.size ?_)
    intro v w2 ho hg
    have HO := Lib.hid ho
    clear ho
    go_wp2_with fail
    go_ret
    refine ⟨_, rfl, ?_, hb.grown hg hb.size (fun k hk => by simp [Value.ownBlock] at hk; omega)⟩
    exact HO.out
end Go.Proofs.YtnhalfdddcjicaaGreat

namespace Go.Proofs.YtnhalfdddcjicaaGreat
open Go.RowKit

end Go.Proofs.YtnhalfdddcjicaaGreat

namespace Go.Proofs.YtnhalfdddcjicaaGreat
open Go.RowKit

theorem InP.keep2 {p q : Nat → Prop} {w w' : World} (hs : w.heap.size ≤ w'.heap.size) (hk : ∀ b, p b → b < w.heap.size → w'.heap[b]? = w.heap[b]?) (hq : ∀ b, p b → b < w.heap.size → q b) : ∀ {e : Ex}, InP p w e → InP q w' e
  | .nil, h => h
  | .mk op col v A n cap arg, h => by
    rw [InP] at h ⊢
    obtain ⟨h1, h2, h3, h4, h5⟩ := h
    refine ⟨h1, h2, h3, h4, fun hn => ?_⟩
    obtain ⟨b, off, e1, e0, e2, e3⟩ := h5 hn
    exact ⟨b, off, e1, hq b e0 e2, Nat.lt_of_lt_of_le e2 hs, fun j hj => ⟨(e3 j hj).1.keep fun i => World.cell?_of_block (a := ⟨b, i, none⟩) (hk b e0 e2), (e3 j hj).2.keep2 hs hk hq⟩⟩
/-- The tree that an expression in memory is. -/
def treeE : Ex → Et
  | .nil => .mk 0 0 ⟨0, 0, []⟩ []
  | .mk op col v _ n _ arg => .mk op col v ((List.range n).map fun j => treeE (arg j))
theorem decN_pos {bound : Int} {st : Option (List UInt8)} {n : Nat} (hz : st.bind (decN bound) = none → n = 0) (hN : Got (decN bound) st n) (hn : 0 < n) : 0 < bound := by
  cases hs : st.bind (decN bound) with
  | none => have := hz hs; omega
  | some y =>
    obtain ⟨m, r⟩ := y
    have e := hN m r hs
    subst e
    cases st with
    | none => cases hs
    | some l =>
      rw [Option.bind_some] at hs
      unfold decN at hs
      cases hi : decI l with
      | none => rw [hi] at hs; cases hs
      | some x =>
        rw [hi, Option.bind_some] at hs
        split at hs
        · cases hs
        · injection hs with hs; injection hs with e1 e2; omega
theorem len_sound {α : Type} {d : List UInt8 → Option (α × List UInt8)} {en : α → List UInt8} (h : ∀ l x r, d l = some (x, r) → l = en x ++ r) (st : Option (List UInt8)) : lenO (nxt d st) ≤ lenO st := by
  cases st with
  | none => exact Nat.le_refl _
  | some l =>
    cases hd : d l with
    | none => rw [nxt_none hd]; exact Nat.zero_le _
    | some y =>
      obtain ⟨x, r⟩ := y
      rw [nxt_some hd]
      have e := h l x r hd
      show r.length ≤ l.length
      rw [e, List.length_append]; omega

end Go.Proofs.YtnhalfdddcjicaaGreat

namespace Go.Proofs.YtnhalfdddcjicaaGreat
open Go.RowKit

theorem set6_grown (w : World) (g : Nat) (x y z p q r : Value) : w.grownBy ((((((w.setCell ⟨g, 0, none⟩ x).setCell ⟨g, 1, none⟩ y).setCell ⟨g, 2, none⟩ z).setCell ⟨g, 3, none⟩ p).setCell ⟨g, 4, none⟩ q).setCell ⟨g, 5, none⟩ r) (some g) :=
  grownBy_tr (grownBy_tr (grownBy_tr (grownBy_tr (grownBy_tr (grownBy_set _ _ _ _) (grownBy_set _ _ _ _)) (grownBy_set _ _ _ _)) (grownBy_set _ _ _ _)) (grownBy_set _ _ _ _)) (grownBy_set _ _ _ _)

set_option maxRecDepth 100000 in
set_option maxHeartbeats 800000 in
theorem stepE_nxt (m : List UInt8 → Option (List Et × List UInt8)) (st : Option (List UInt8)) : nxt (stepE m) st = nxt m (nxt decV (nxt decI (nxt decI st))) := by
  cases st with
  | none => rfl
  | some l =>
    have hC : ∀ o : Option (Et × List UInt8), stepE m l = o → nxt (stepE m) (some l) = o.map (·.2) := fun o h => by unfold nxt; rw [Option.bind_some, h]
    unfold stepE at hC
    cases h1 : decI l with
    | none => rw [nxt_none h1]; exact hC none (by rw [h1]; rfl)
    | some x1 =>
      obtain ⟨n, q1⟩ := x1
      rw [nxt_some h1]
      cases h2 : decI q1 with
      | none => rw [nxt_none h2]; exact hC none (by rw [h1, Option.bind_some]; simp only; rw [h2]; rfl)
      | some x2 =>
        obtain ⟨f, q2⟩ := x2
        rw [nxt_some h2]
        cases h3 : decV q2 with
        | none => rw [nxt_none h3]; exact hC none (by rw [h1, Option.bind_some]; simp only; rw [h2, Option.bind_some]; simp only; rw [h3]; rfl)
        | some x3 =>
          obtain ⟨k, q3⟩ := x3
          rw [nxt_some h3]
          cases h4 : m q3 with
          | none => rw [nxt_none h4]; exact hC none (by rw [h1, Option.bind_some]; simp only; rw [h2, Option.bind_some]; simp only; rw [h3, Option.bind_some]; simp only; rw [h4]; rfl)
          | some x4 =>
            obtain ⟨a, q4⟩ := x4
            rw [nxt_some h4]
            exact hC (some (.mk n f k a, q4)) (by rw [h1, Option.bind_some]; simp only; rw [h2, Option.bind_some]; simp only; rw [h3, Option.bind_some]; simp only; rw [h4]; rfl)
theorem stepE_got {m : List UInt8 → Option (List Et × List UInt8)} {st : Option (List UInt8)} {n f : Int} {k : Vl} {a : List Et} (g1 : Got decI st n) (g2 : Got decI (nxt decI st) f) (g3 : Got decV (nxt decI (nxt decI st)) k) (g4 : Got m (nxt decV (nxt decI (nxt decI st))) a) : Got (stepE m) st (.mk n f k a) := by
  cases st with
  | none => exact got_nil _ _
  | some l =>
    intro c r h
    rw [Option.bind_some] at h
    unfold stepE at h
    simp only [Option.bind_eq_some_iff] at h
    obtain ⟨⟨n', q1⟩, h1, ⟨f', q2⟩, h2, ⟨k', q3⟩, h3, ⟨a', q4⟩, h4, h7⟩ := h
    injection h7 with h7; injection h7 with e1 e2
    subst e1
    dsimp only at *
    rw [nxt_some h1] at g2 g3 g4
    rw [nxt_some h2] at g3 g4
    rw [nxt_some h3] at g4
    rw [got_some g1 h1, got_some g2 h2, got_some g3 h3, got_some g4 h4]
theorem tree_row (L : List Ex) : ((List.range L.length).map fun j => treeE (L.getD j .nil)) = L.map treeE := by
  apply List.ext_getElem
  · simp
  · intro i h1 h2
    simp at h1 h2 ⊢
    rw [List.getElem?_eq_getElem h2]; rfl
theorem rowP_own {w : World} {base n : Nat} {v : Value} {L : List Ex} {p q : Nat → Prop} (h : w.ownsRow base 67 6 v n (L.flatMap Ex.cs)) (hn : L.length = n) (hx : ∀ x ∈ L, InP p w x) (hq : ∀ g, base ≤ g → q g) (hp : ∀ g, p g → q g) :
    ∃ A c, v = .slice A n c ∧ RowP q w A n (fun j => L.getD j .nil) := by
  obtain ⟨A, c, rfl, hc⟩ := own_cells Ex.cs .nil (fun _ => rfl) L h hn
  refine ⟨A, c, rfl, fun h0 => ?_⟩
  obtain ⟨g, e1, e2, e3, e4⟩ := hc h0
  refine ⟨g, 0, e1, hq g e2, e3, fun j hj => ⟨?_, ?_⟩⟩
  · have k := e4 j hj
    rw [Nat.zero_add]
    exact ⟨k 0 (by omega), k 1 (by omega), k 2 (by omega), k 3 (by omega), k 4 (by omega), k 5 (by omega)⟩
  · refine (hx _ ?_).keep2 (Nat.le_refl _) (fun _ _ _ => rfl) (fun c hc _ => hp c hc)
    have hj' : j < L.length := by omega
    simp only [List.getD_eq_getElem?_getD, List.getElem?_eq_getElem hj', Option.getD_some]
    exact List.getElem_mem hj'

end Go.Proofs.YtnhalfdddcjicaaGreat

namespace Go.Proofs.YtnhalfdddcjicaaGreat
open Go.RowKit

/-- Another slice for the operands. -/
def Ex.withArgs (e : Ex) (A : Option Addr) (n cap : Nat) (arg : Nat → Ex) : Ex := .mk e.op e.col e.v A n cap arg
theorem own_block {α : Type} {w : World} {base : Nat} {e : TypeId} {v : Value} {n : Nat} (f : α → List Value) (d : α) (hf : ∀ a, (f a).length = 6) (l : List α) (h : w.ownsRow base e 6 v n (l.flatMap f)) (hn : l.length = n) (h0 : 0 < n) :
    ∃ g c cur, v = .slice (some ⟨g, 0, none⟩) n c ∧ base ≤ g ∧ At w g e cur ∧ ∀ j, j < n → ∀ i, i < 6 → cur[j * 6 + i]? = (f (l.getD j d))[i]? := by
  rcases h.2 with ⟨rfl, rfl⟩ | ⟨g, cap, cur, rfl, hb, hg, _, _, _, htk⟩
  · omega
  · refine ⟨g, cap, cur, rfl, hb, hg, fun j hj i hi => ?_⟩
    rw [← flat_at f 6 d hf l j (by omega) i hi, ← htk, List.getElem?_take, if_pos (by omega)]
    simp
theorem getD_fn (n : Nat) (f : Nat → Ex) (j : Nat) (hj : j < n) : ((List.range n).map f).getD j .nil = f j := by simp [hj]
theorem wtE_ge (e : Ex) (h : e ≠ .nil) : 1 ≤ wtE e := by
  cases e with
  | nil => exact absurd rfl h
  | mk => rw [wtE]; omega

/-- Block g is a row of these expressions, free to be written. -/
def RowOf (w : World) (g n : Nat) (x : Nat → Ex) : Prop := ∃ cur, At w g 67 cur ∧ ∀ j, j < n → ∀ i, i < 6 → cur[j * 6 + i]? = (Ex.cs (x j))[i]?
theorem RowOf.lt {w : World} {g n : Nat} {x : Nat → Ex} (h : RowOf w g n x) : g < w.heap.size := by obtain ⟨_, h, _⟩ := h; exact h.lt
theorem RowOf.cells {w : World} {g n : Nat} {x : Nat → Ex} (h : RowOf w g n x) {j : Nat} (hj : j < n) : CellsE w g (j * 6) (x j) := by
  obtain ⟨cur, hA, hc⟩ := h
  have k0 := hc j hj 0 (by omega)
  have k1 := hc j hj 1 (by omega)
  have k2 := hc j hj 2 (by omega)
  have k3 := hc j hj 3 (by omega)
  have k4 := hc j hj 4 (by omega)
  have k5 := hc j hj 5 (by omega)
  exact ⟨(hA.cell _).trans k0, (hA.cell _).trans k1, (hA.cell _).trans k2, (hA.cell _).trans k3, (hA.cell _).trans k4, (hA.cell _).trans k5⟩
theorem RowOf.unfrozen {w : World} {g n : Nat} {x : Nat → Ex} (h : RowOf w g n x) (i : Nat) : w.frozen? ⟨g, i, none⟩ = false := by obtain ⟨_, h, _⟩ := h; exact h.unfrozen i
theorem RowOf.below {w w' : World} {g n : Nat} {x : Nat → Ex} (h : RowOf w g n x) (hb : Below w.heap.size w w') : RowOf w' g n x := by
  obtain ⟨cur, hA, hc⟩ := h
  exact ⟨cur, hA.below hb hA.lt, hc⟩
theorem RowOf.put {w : World} {g n k : Nat} {x y : Nat → Ex} (h : RowOf w g n x) (hk : k < n) (A : Option Addr) (m c : Nat) (arg : Nat → Ex) (hy : ∀ j, j < n → y j = if j = k then (x k).withArgs A m c arg else x j) :
    RowOf (w.setCell ⟨g, k * 6 + 5, none⟩ (.slice A m c)) g n y := by
  obtain ⟨cur, hA, hc⟩ := h
  refine ⟨_, hA.put (k * 6 + 5) (.slice A m c), fun j hj i hi => ?_⟩
  rw [hy j hj]
  have hsz : k * 6 + 5 < cur.size := by
    have := hc k hk 5 (by omega)
    rcases Nat.lt_or_ge (k * 6 + 5) cur.size with h | h
    · exact h
    · rw [Array.getElem?_eq_none h] at this
      simp [Ex.cs] at this
  by_cases hjk : j = k
  · subst hjk
    rw [if_pos rfl]
    by_cases hi5 : i = 5
    · subst hi5
      rw [Array.getElem?_setIfInBounds_self_of_lt hsz]
      rfl
    · rw [Array.getElem?_setIfInBounds_ne (by omega), hc j hj i hi]
      match i, hi, hi5 with
      | 0, _, _ => rfl
      | 1, _, _ => rfl
      | 2, _, _ => rfl
      | 3, _, _ => rfl
      | 4, _, _ => rfl
      | 5, _, h => exact absurd rfl h
  · rw [if_neg hjk, Array.getElem?_setIfInBounds_ne (by omega), hc j hj i hi]

set_option maxRecDepth 100000 in
set_option maxHeartbeats 6400000 in
theorem copyX_any (e : Ex) : ∀ w : World, InE w e → wtE e ≤ 2000000 → Calls Tryz.prog 121 #[.slice e.A e.n e.cap] w fun en w' =>
    ∃ A' cap' arg', en = .returned (.slice A' e.n cap') ∧ RowP (fun b => w.heap.size ≤ b) w' A' e.n arg' ∧ simE e (e.withArgs A' e.n cap' arg') ∧ Below w.heap.size w w' := by
  induction e with
  | nil => intro w h; exact h.elim
  | mk op col v A n cap arg ih =>
    intro w hin hwt
    rw [InE] at hin
    obtain ⟨-, -, -, hn, harg⟩ := hin
    rw [wtE] at hwt
    have hone : ∀ j, j < n → 1 ≤ wtE (arg j) := fun j hj => by
      obtain ⟨b, off, _, _, hc⟩ := harg (by omega)
      refine wtE_ge _ (fun e => ?_)
      have := (hc j hj).2
      rw [e] at this
      exact this.elim
    have hnn : n ≤ 2000000 := by
      have : ∀ m, m ≤ n → m ≤ sumN m fun j => wtE (arg j) := fun m => by
        induction m with
        | zero => intro _; omega
        | succ m im => intro hm; rw [sumN_succ]; have := im (by omega); have := hone m (by omega); omega
      have := this n (Nat.le_refl _)
      omega
    have hwj : ∀ j, j < n → wtE (arg j) ≤ 2000000 := fun j hj => by have : wtE (arg j) ≤ sumN n fun j => wtE (arg j) := sumN_at (fun j => wtE (arg j)) hj; omega
    have hcl := cloneE_any A n cap ((List.range n).map arg) w (by simp) (by omega) (fun h0 => by
      obtain ⟨b, off, e1, e2, e3⟩ := harg h0
      refine ⟨b, off, e1, fun j hj i v hv => ?_⟩
      rw [getD_fn n arg j hj] at hv
      obtain ⟨c0, c1, c2, c3, c4, c5⟩ := (e3 j hj).1
      match i, hv with
      | 0, hv => injection hv with hv; subst hv; exact c0
      | 1, hv => injection hv with hv; subst hv; exact c1
      | 2, hv => injection hv with hv; subst hv; exact c2
      | 3, hv => injection hv with hv; subst hv; exact c3
      | 4, hv => injection hv with hv; subst hv; exact c4
      | 5, hv => injection hv with hv; subst hv; exact c5
      | i + 6, hv => simp [Ex.cs] at hv)
    simp only [Ex.A, Ex.n, Ex.cap, Ex.withArgs, Ex.op, Ex.col, Ex.v]
    go_enter Tryz.func121, Tryz.ntmps121
    go_wp2_with fail
    refine hcl.mono ?_
    rintro en w2 ⟨x, rfl, hown, b2⟩
    by_cases h0 : n = 0
    · subst h0
      obtain ⟨A', c', rfl, -⟩ := own_cells Ex.cs .nil (fun _ => rfl) _ hown (by simp)
      clear hcl harg ih hone hwj hown
      go_wp2_with fail
      go_loopw [8] (fun i wr => i = .int .i64 0 ∧ wr = w2) (fun _ _ => 0)
      case atStart => exact ⟨rfl, rfl⟩
      case round =>
        obtain ⟨rfl, rfl⟩ := hrel
        go_wp2_with fail
        go_ret
        exact ⟨A', c', fun _ => .nil, rfl, fun h => absurd h (by omega), by rw [simE]; exact ⟨rfl, rfl, rfl, rfl, fun j hj => absurd hj (by omega)⟩, b2⟩
    obtain ⟨g, c', cur, rfl, hg0, hAt, hcur⟩ := own_block Ex.cs .nil (fun _ => rfl) _ hown (by simp) (by omega)
    have hR : RowOf w2 g n arg := ⟨cur, hAt, fun j hj i hi => by rw [hcur j hj i hi, getD_fn n arg j hj]⟩
    clear hcl hown hcur hAt
    unfold maxLen at hn
    go_wp2_with fail
    go_loopw [8] (fun i wr => ∃ (k : Nat) (new : Nat → Ex), k ≤ n ∧ i = .int .i64 k ∧ RowOf wr g n (fun j => if j < k then new j else arg j) ∧ Below w.heap.size w wr ∧
      Hid (∀ j, j < k → InP (fun b => w.heap.size ≤ b ∧ b ≠ g) wr (new j) ∧ simE (arg j) (new j))) (fun i _ => n - (intOf i).toNat)
    case atStart =>
      exact ⟨0, fun _ => .nil, by omega, rfl, by simpa using hR, b2, fun j hj => absurd hj (by omega)⟩
    case round =>
      clear hR
      obtain ⟨k, new, hk, rfl, hR, hbr, hnew⟩ := hrel
      by_cases hlt : k < n
      · have hik := harg (by omega)
        obtain ⟨b, off, -, -, hc⟩ := hik
        have hin : InE w (arg k) := (hc k hlt).2
        clear hc
        have hcall := ih k wr (hin.below hbr) (hwj k hlt)
        have cells := hR.cells hlt
        rw [if_neg (by omega)] at cells
        obtain ⟨-, -, -, -, -, c5⟩ := cells
        have hki : (k : Int) < (n : Int) := by omega
        have hltg := hR.lt
        have hIok : I64 (arg k).op ∧ I64 (arg k).col ∧ (arg k).v.Ok ∧ (arg k).n ≤ maxLen := by
          cases hak : arg k with
          | nil => rw [hak] at hin; exact hin.elim
          | mk o1 o2 o3 o4 o5 o6 o7 => rw [hak, InE] at hin; exact ⟨hin.1, hin.2.1, hin.2.2.1, hin.2.2.2.1⟩
        clear ih
        go_wp2_with fail
        refine hcall.mono ?_
        rintro en w3 ⟨A3, cap3, arg3, rfl, hrow3, hsim3, b3⟩
        have hR3 := hR.below b3
        have d5 : w3.cell? ⟨g, k * 6 + 5, none⟩ = some (.slice (arg k).A (arg k).n (arg k).cap) := (b3.cell (p := ⟨g, k * 6 + 5, none⟩) hltg).trans c5
        have z5 := hR3.unfrozen (k * 6 + 5)
        have hbw3 := below_in hbr b3
        have hR4 := hR3.put hlt A3 (arg k).n cap3 arg3 (y := fun j => if j < k + 1 then (if j = k then (arg k).withArgs A3 (arg k).n cap3 arg3 else new j) else arg j) (fun j hj => by
          by_cases hjk : j = k
          · subst hjk; rw [if_pos (by omega), if_pos rfl, if_pos rfl, if_neg (by omega)]
          · rw [if_neg hjk, if_neg hjk]
            by_cases hlk : j < k
            · rw [if_pos (by omega), if_pos hlk]
            · rw [if_neg (by omega), if_neg hlk])
        have hlt3 : g < w3.heap.size := Nat.lt_of_lt_of_le hltg b3.size
        have hnew4 : Hid (∀ j, j < k + 1 → InP (fun b => w.heap.size ≤ b ∧ b ≠ g) (w3.setCell ⟨g, k * 6 + 5, none⟩ (.slice A3 (arg k).n cap3)) (if j = k then (arg k).withArgs A3 (arg k).n cap3 arg3 else new j) ∧ simE (arg j) (if j = k then (arg k).withArgs A3 (arg k).n cap3 arg3 else new j)) := fun j hj => by
          have hset : w3.heap.size ≤ (w3.setCell ⟨g, k * 6 + 5, none⟩ (.slice A3 (arg k).n cap3)).heap.size := by simp [World.setCell]
          by_cases hjk : j = k
          · subst hjk
            rw [if_pos rfl]
            refine ⟨?_, hsim3⟩
            unfold Ex.withArgs
            rw [InP]
            refine ⟨hIok.1, hIok.2.1, hIok.2.2.1, hIok.2.2.2, ?_⟩
            exact hrow3.keep hset (fun b hb _ => Below.heap_setCell _ _ _ _ (fun e : b = g => by have hw := hbr.size; have h9 : (fun b => wr.heap.size ≤ b) b := hb; have h8 : wr.heap.size ≤ b := h9; omega)) (fun b hb => ⟨by have := hbr.size; omega, by omega⟩)
          · rw [if_neg hjk]
            have h1 := hnew.out j (by omega)
            refine ⟨?_, h1.2⟩
            have h2 := h1.1.keep b3.size (fun b _ hlt => b3.block b hlt) (fun b hb => hb) (q := fun b => w.heap.size ≤ b ∧ b ≠ g)
            exact h2.keep hset (fun b hb _ => Below.heap_setCell _ _ _ _ hb.2) (fun b hb => hb)
        clear hcall c5 hnew hR hR3
        go_wp2_with fail
        exact ⟨⟨k + 1, fun j => if j = k then (arg k).withArgs A3 (arg k).n cap3 arg3 else new j, by omega, by go_num, hR4, hbw3.setCell (p := ⟨g, k * 6 + 5, none⟩) hg0 _, hnew4⟩, by simp [intOf]; omega⟩
      · obtain rfl : k = n := by omega
        clear ih hwj hone
        go_wp2_with fail
        go_ret
        refine ⟨_, c', new, rfl, fun _ => ⟨g, 0, rfl, hg0, hR.lt, fun j hj => ?_⟩, ?_, hbr⟩
        · have h1 := hR.cells hj
          rw [if_pos hj] at h1
          rw [Nat.zero_add]
          exact ⟨h1, (hnew.out j hj).1.keep (Nat.le_refl _) (fun _ _ _ => rfl) (fun b hb => hb.1)⟩
        · rw [simE]
          exact ⟨rfl, rfl, rfl, rfl, fun j hj => (hnew.out j hj).2⟩
end Go.Proofs.YtnhalfdddcjicaaGreat
