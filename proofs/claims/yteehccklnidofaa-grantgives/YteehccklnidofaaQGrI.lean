/- slices.Insert at grants: laws of rows; the clone. -/
import Derived.Test.YteehccklnidofaaQGrH
import Derived.Test.YteehccklnidofaaQScO
import Derived.Laws.IdiomCopy
import Derived.Lib.Overlaps
import Derived.Lib.AppendZerosOnto
import Derived.Maps.AppendAt
import Derived.Lib.SliceRun
namespace Go.Proofs.Yteehccklnidofaa
open Go.RowKit

/-- vs laid over l from o on. -/
def layL (o : Nat) (l vs : List Value) : List Value := l.take o ++ vs ++ l.drop (o + vs.length)
theorem layL_len {o : Nat} {l vs : List Value} (h : o + vs.length ≤ l.length) : (layL o l vs).length = l.length := by
  unfold layL
  simp only [List.length_append, List.length_take, List.length_drop]
  omega
theorem layL_cons (o : Nat) (l : List Value) (v : Value) (vs : List Value) (h : o + 1 + vs.length ≤ l.length) : layL (o + 1) (l.set o v) vs = layL o l (v :: vs) := by
  unfold layL
  have h1 : (l.set o v).take (o + 1) = l.take o ++ [v] := by
    rw [List.take_succ_eq_append_getElem (by simp; omega), List.take_set_of_le (Nat.le_refl _)]
    simp
  have h2 : (l.set o v).drop (o + 1 + vs.length) = l.drop (o + (v :: vs).length) := by
    rw [List.drop_set_of_lt (by omega), List.length_cons, show o + 1 + vs.length = o + (vs.length + 1) by omega]
  rw [h1, h2]
  simp
theorem At.sets {g : Nat} {t : TypeId} : ∀ (vs : List Value) (o : Nat) (l : List Value) (w : World), At w g t l.toArray → o + vs.length ≤ l.length → At (w.setCells g o vs) g t (layL o l vs).toArray
  | [], o, l, w, h, _ => by
    unfold layL
    simp only [List.append_nil, List.length_nil, Nat.add_zero, List.take_append_drop]
    exact h
  | v :: vs, o, l, w, h, hl => by
    rw [World.setCells]
    simp only [List.length_cons] at hl
    have h1 := At.put h o v
    rw [List.setIfInBounds_toArray] at h1
    have h2 := At.sets vs (o + 1) (l.set o v) _ h1 (by rw [List.length_set]; omega)
    rw [layL_cons o l v vs (by omega)] at h2
    exact h2
theorem below_sets {B : Nat} {w : World} {g : Nat} (hg : B ≤ g) : ∀ (vs : List Value) (o : Nat) (w' : World), Below B w w' → Below B w (w'.setCells g o vs)
  | [], _, _, h => h
  | v :: vs, o, w', h => by
    rw [World.setCells]
    exact below_sets hg vs (o + 1) _ (h.trans ⟨rfl, rfl, rfl, by simp [World.setCell], fun k hk => Below.heap_setCell _ _ _ _ (fun e => by simp at e; omega)⟩)
/-- copy, at elements of any size. -/
theorem run_copy_k {P : Program} (w : World) (dT sT ty elem : TypeId) (k : Nat) (b o dLen dCap : Nat) (a : Addr) (sLen sCap : Nat) (cs : List Value)
    (hu : P.underlying dT = some (.slice elem)) (hs : (P.info? elem).map (·.size) = some k) (hn : cs.length = Nat.min sLen dLen * k)
    (hsrc : ∀ j v, cs[j]? = some v → w.cell? (a.add j) = some v) (hc : ∀ j, j < cs.length → (w.cell? ⟨b, o + j, none⟩).isSome = true) (hf : ∀ j, j < cs.length → w.frozen? ⟨b, o + j, none⟩ = false) (h1 : ∀ v ∈ cs, v.oneCell' = true) :
    (Builtin.copy_ #[dT, sT] ty #[.slice (some ⟨b, o, none⟩) dLen dCap, .slice (some a) sLen sCap]).run P w = .ok (goInt (Nat.min sLen dLen)) (w.setCells b o cs) := by
  have hl := run_loadCells_list (P := P) w a cs hsrc
  have hst := run_storeCells_cells (P := P) b o cs 0 w (by simpa using hc) (by simpa using hf) h1
  cases hq : P.info? elem with
  | none => simp [hq] at hs
  | some i =>
    have hi : i.size = k := by simpa [hq] using hs
    simp [Builtin.copy_, run_underlying hu, Builtin.lenOf, Builtin.firstCells, sizeOf, typeInfo, hq, hi, ← hn, hl, hst]
/-- .. where both rows are known whole. -/
theorem run_copy_at {P : Program} (w : World) (dT sT ty elem : TypeId) (k : Nat) (b o dLen dCap : Nat) (c p sLen sCap : Nat) (t t' : TypeId) (l l' : List Value)
    (hu : P.underlying dT = some (.slice elem)) (hs : (P.info? elem).map (·.size) = some k) (hb : At w b t l.toArray) (hc : At w c t' l'.toArray)
    (hd : o + Nat.min sLen dLen * k ≤ l.length) (hp : p + Nat.min sLen dLen * k ≤ l'.length) (h1 : ∀ v ∈ (l'.drop p).take (Nat.min sLen dLen * k), v.oneCell' = true) :
    (Builtin.copy_ #[dT, sT] ty #[.slice (some ⟨b, o, none⟩) dLen dCap, .slice (some ⟨c, p, none⟩) sLen sCap]).run P w = .ok (goInt (Nat.min sLen dLen)) (w.setCells b o ((l'.drop p).take (Nat.min sLen dLen * k))) := by
  have hl : ((l'.drop p).take (Nat.min sLen dLen * k)).length = Nat.min sLen dLen * k := by rw [List.length_take, List.length_drop]; omega
  refine run_copy_k w dT sT ty elem k b o dLen dCap ⟨c, p, none⟩ sLen sCap _ hu hs hl (fun j v hj => ?_) (fun j hj => ?_) (fun j hj => ?_) h1
  · have e : (⟨c, p, none⟩ : Addr).add j = ⟨c, p + j, none⟩ := by unfold Addr.add; split <;> simp_all
    rw [e, At.cell hc (p + j)]
    rw [List.getElem?_take] at hj
    split at hj
    · rw [List.getElem?_drop] at hj
      simpa using hj
    · cases hj
  · rw [At.cell hb (o + j)]
    rw [hl] at hj
    simp
    omega
  · exact At.unfrozen hb (o + j)
theorem wp_append_at {P : Program} {ops : Array Oper} {rest : List Oper} {o : Oper} {a : Act} {Q : Exit → Act → World → Prop} {w : World} {base : Nat} {v : Value} {n : Nat} {xs : List Value} (hgd : o.guard = none) (sl x : Operand) (t : TypeId)
    (hop : o.op = .call { callee := .builtin .append, args := #[sl, x], argTypes := #[t, t] }) (e : TypeId) (size bytes : Nat) (z : Value) (ht : P.underlying t = some (.slice e))
    (hi : (P.info? e).map (fun i => (i.zero, i.size, i.bytes)) = some (some z, size, bytes)) (hzs : z.cells.size = size) (hsz : 0 < size) (h : w.ownsRow base e size v n xs) (ad : Addr) (m c : Nat) (news : List Value)
    (hsl : a.eval sl = v) (hx : a.eval x = .slice (some ad) m c) (hl : news.length = m * size) (hnews : ∀ j u, news[j]? = some u → w.cell? (ad.add j) = some u) (h1 : ∀ u ∈ news, u.oneCell' = true) (hn : n + m ≤ 1000000000) (hby : bytes ≤ 100) (hb : base ≤ w.heap.size)
    (hQ : ∀ v' w', w'.ownsRow base e size v' (n + m) (xs ++ news) → w.grownBy w' v.ownBlock → wpList P ops Q rest (a.put o.dst v') w') :
    wpList P ops Q (o :: rest) a w := by
  obtain ⟨i0, hi0, hz0, hz1, hz2⟩ := info_parts hi
  obtain ⟨v', w', hrun, h2, h3, _, _⟩ := run_append_own_at (P := P) w base t o.type e i0 z size bytes ht hi0 hz0 hz1 hz2 hzs hsz v n xs h ad m c news hl hnews h1 (by unfold maxLen; omega) (by have := Nat.mul_le_mul hn hby; omega) hb
  refine wpList_plain hgd fun K hK => ?_
  unfold Oper.wp execOp
  simp only [hop, resolve, invoke, builtin, Sem.run_bind, Sem.run_pure, Result.andThen_ok, List.map_toArray, List.map_cons, List.map_nil, hsl, hx, hrun]
  exact hK _ _ (hQ v' w' h2 h3)

theorem add_plain (b off i : Nat) : (⟨b, off, none⟩ : Addr).add i = ⟨b, off + i, none⟩ := by unfold Addr.add; split <;> simp_all
theorem rows_news3 {α : Type} (f : α → List Value) (d : α) (hf : ∀ a, (f a).length = 3) (l : List α) (w : World) (b off : Nat) (h : ∀ j, j < l.length → ∀ i v, (f (l.getD j d))[i]? = some v → w.cell? ⟨b, off + j * 3 + i, none⟩ = some v) :
    ∀ j u, (l.flatMap f)[j]? = some u → w.cell? ((⟨b, off, none⟩ : Addr).add j) = some u := fun j u hu => by
  have hlen : ∀ l : List α, (l.flatMap f).length = l.length * 3 := fun l => by
    induction l with
    | nil => rfl
    | cons a r ih => rw [List.flatMap_cons, List.length_append, ih, hf, List.length_cons]; omega
  have hj : j < l.length * 3 := by rw [← hlen]; exact (List.getElem?_eq_some_iff.1 hu).1
  have e : j = j / 3 * 3 + j % 3 := by omega
  have hu' := hu
  rw [e, flat_at f 3 d hf l (j / 3) (by omega) (j % 3) (by omega)] at hu'
  have h1 := h (j / 3) (by omega) (j % 3) u hu'
  have e2 : (⟨b, off, none⟩ : Addr).add j = ⟨b, off + j / 3 * 3 + j % 3, none⟩ := by
    rw [add_plain, Nat.add_assoc, ← e]
  rw [e2]
  exact h1
theorem flat_len3 {α : Type} (f : α → List Value) (hf : ∀ a, (f a).length = 3) : ∀ l : List α, (l.flatMap f).length = l.length * 3
  | [] => rfl
  | a :: r => by rw [List.flatMap_cons, List.length_append, flat_len3 f hf r, hf, List.length_cons]; omega
theorem one_cells {α : Type} (f : α → List Value) (l : List α) (h : ∀ a, ∀ u ∈ f a, u.oneCell' = true) : ∀ u ∈ l.flatMap f, u.oneCell' = true := fun u hu => by
  obtain ⟨a, _, ha⟩ := List.mem_flatMap.1 hu
  exact h a u ha

theorem info_grant : (Try.prog.info? 24).map (fun i => (i.zero, i.size, i.bytes)) = some (some (.agg #[.int .i64 0, .string ⟨#[]⟩, .int .i64 0]), 3, 32) := by kernel_rfl
set_option maxRecDepth 100000 in
set_option maxHeartbeats 800000 in
theorem cloneG_any (A : Option Addr) (n cap : Nat) (l : List Gr) (w : World) (hl : l.length = n) (hn : n ≤ 100000000)
    (hr : 0 < n → ∃ b off, A = some ⟨b, off, none⟩ ∧ ∀ j, j < n → ∀ i v, (Gr.cs (l.getD j default))[i]? = some v → w.cell? ⟨b, off + j * 3 + i, none⟩ = some v) :
    Calls Try.prog 26 #[.slice A n cap] w fun e w' => ∃ v, e = .returned v ∧ w'.ownsRow w.heap.size 24 3 v n (l.flatMap Gr.cs) ∧ Below w.heap.size w w' := by
  cases A with
  | none =>
    have h0 : n = 0 := by
      rcases Nat.eq_zero_or_pos n with h | h
      · exact h
      · obtain ⟨_, _, h1, _⟩ := hr h; cases h1
    subst h0
    obtain rfl : l = [] := List.eq_nil_of_length_eq_zero hl
    clear hr
    have hq := fun (w : World) => Lib.run_eql_slice_nil (P := Try.prog) w 22 24 none 0 cap 0 0 Try.underlying22
    go_enter Try.func26, Try.ntmps26
    go_wp2_with fail
    go_ret
    exact ⟨_, rfl, World.ownsRow_nil _ _ _ 3, Below.refl _ _⟩
  | some ad =>
    have hnews : ∀ j u, (l.flatMap Gr.cs)[j]? = some u → w.cell? (ad.add j) = some u := fun j u hu => by
      have hpos : 0 < n := by
        rcases Nat.eq_zero_or_pos n with h | h
        · obtain rfl : l = [] := List.eq_nil_of_length_eq_zero (by omega)
          simp at hu
        · exact h
      obtain ⟨b, off, e1, e2⟩ := hr hpos
      injection e1 with e1
      subst e1
      exact rows_news3 Gr.cs default (fun _ => rfl) l w b off (fun j hj i v hv => e2 j (by omega) i v hv) j u hu
    have hmade : (w.alloc (.cells #[] 24)).ownsRow w.heap.size 24 3 (.slice (some ⟨w.heap.size, 0, none⟩) 0 0) 0 [] := World.ownsRow_made w #[] 0 (Nat.le_refl _) (by unfold maxLen; omega) rfl
    have hb := below_box w (.cells #[] 24)
    have hnews' : ∀ j u, (l.flatMap Gr.cs)[j]? = some u → (w.alloc (.cells #[] 24)).cell? (ad.add j) = some u := fun j u hu => by
      have h1 := hnews j u hu
      exact (hb.cell (World.block_lt_of_cell? w _ h1)).trans h1
    clear hr hnews
    have hq := fun (w : World) => Lib.run_eql_slice_nil (P := Try.prog) w 22 24 (some ad) n cap 0 0 Try.underlying22
    go_enter Try.func26, Try.ntmps26
    go_wp2_with (at_builtin; refine wp_append_at rfl (.tmp 5) (.tmp 6) 22 rfl 24 3 32 _ Try.underlying22 info_grant rfl (by omega) hmade ad n cap (l.flatMap Gr.cs) rfl rfl (by rw [flat_len3 _ (fun _ => rfl), hl]) hnews' (one_cells _ _ (fun a u hu => by simp [Gr.cs] at hu; rcases hu with rfl | rfl | rfl <;> rfl)) (by omega) (by omega) hb.size ?_)
    intro v w2 ho hg
    have HO := Lib.hid ho
    clear ho
    go_wp2_with fail
    go_ret
    refine ⟨_, rfl, ?_, hb.grown hg hb.size (fun k hk => by simp [Value.ownBlock] at hk; omega)⟩
    exact HO.out
end Go.Proofs.Yteehccklnidofaa
