/- Bytes that a slice owns within a block that may be longer than its capacity (behind 'b[:n:n]'): append, cut, store, read. -/
import Derived.Test.YtmdoicemkddpgaaMem
import Derived.Lib.AppendStr
namespace Go.Proofs.Ytmdoicemkddpgaa
open Go.RowKit

/-- The slice value v reads as xs; none but v writes within its capacity. -/
def Bts (w : World) (base : Nat) (e : TypeId) (v : Value) (xs : List UInt8) : Prop :=
  (v = .slice none 0 0 ∧ xs = []) ∨ ∃ g cap cur, v = .slice (some ⟨g, 0, none⟩) xs.length cap ∧ base ≤ g ∧ w.heap[g]? = some (.cells cur e (0, 0)) ∧ xs.length ≤ cap ∧ cap ≤ cur.size ∧ cap ≤ maxLen ∧ cur.toList.take xs.length = Lib.byteCells xs

/-- Nothing but draws. -/
structure Still (w w' : World) : Prop where
  os : w'.os = w.os
  tape : w'.tape = w.tape
  output : w'.output = w.output
  heap : w'.heap = w.heap
theorem Still.refl (w : World) : Still w w := ⟨rfl, rfl, rfl, rfl⟩
theorem Still.trans {a b c : World} (h : Still a b) (k : Still b c) : Still a c := ⟨k.os.trans h.os, k.tape.trans h.tape, k.output.trans h.output, k.heap.trans h.heap⟩
theorem Still.drew (w : World) : Still w w.drew := ⟨rfl, rfl, rfl, rfl⟩
theorem Still.drewN (w : World) (n : Nat) : Still w (w.drewN n) := ⟨rfl, rfl, rfl, rfl⟩
theorem Still.of_eq {w w' : World} (h : w = w') : Still w w' := h ▸ Still.refl w
theorem Still.below {w w' : World} (h : Still w w') (B : Nat) : Below B w w' := ⟨h.os, h.tape, h.output, by rw [h.heap]; exact Nat.le_refl _, fun _ _ => by rw [h.heap]⟩
theorem Still.size {w w' : World} (h : Still w w') : w'.heap.size = w.heap.size := by rw [h.heap]
theorem Still.at_ {w w' : World} {g : Nat} {t : TypeId} {cs : Array Value} (h : Still w w') (k : At w g t cs) : At w' g t cs := k.keep (by rw [h.heap])

section
variable {w w' : World} {base : Nat} {e : TypeId} {v : Value} {xs : List UInt8}
theorem Bts.nil (w : World) (base : Nat) (e : TypeId) : Bts w base e (.slice none 0 0) [] := .inl ⟨rfl, rfl⟩
theorem Bts.of_owns (h : Owns w base e v xs) : Bts w base e v xs := by
  rcases h.2 with ⟨rfl, h0⟩ | ⟨g, cap, cur, rfl, hb, hg, hn, hm, hs, ht⟩
  · exact .inl ⟨rfl, List.eq_nil_of_length_eq_zero h0⟩
  · exact .inr ⟨g, cap, cur, rfl, hb, hg, hn, by omega, hm, by simpa using ht⟩
theorem Bts.lt (h : Bts w base e v xs) : ∀ g, v.ownBlock = some g → base ≤ g ∧ g < w.heap.size := by
  rcases h with ⟨rfl, _⟩ | ⟨g, cap, cur, rfl, hb, hg, _⟩
  · intro g h; simp [Value.ownBlock] at h
  · intro k hk
    have : g = k := Option.some.inj hk
    subst this
    exact ⟨hb, (Array.getElem?_eq_some_iff.1 hg).1⟩
theorem Bts.apart {g : Nat} {t : TypeId} {cs : Array Value} (h : Bts w base e v xs) (hg : At w g t cs) (hne : e ≠ t) : v.ownBlock ≠ some g := by
  rcases h with ⟨rfl, _⟩ | ⟨g', cap, cur, rfl, _, hh, _⟩
  · intro h; simp [Value.ownBlock] at h
  · intro he
    obtain rfl : g' = g := Option.some.inj he
    exact hne (hg.type_eq hh).symm
theorem Bts.keep (h : Bts w base e v xs) (k : ∀ g, v.ownBlock = some g → w'.heap[g]? = w.heap[g]?) : Bts w' base e v xs := by
  rcases h with h | ⟨g, cap, cur, rfl, hb, hg, rest⟩
  · exact .inl h
  · exact .inr ⟨g, cap, cur, rfl, hb, (k g rfl).trans hg, rest⟩
theorem Bts.far (h : Bts w base e v xs) {p : Addr} (hne : v.ownBlock ≠ some p.block) (u : Value) : Bts (w.setCell p u) base e v xs :=
  h.keep fun g hg => Below.heap_setCell _ _ _ _ (fun e => hne (by rw [← e]; exact hg))
theorem Bts.alloc (h : Bts w base e v xs) (o : Obj) : Bts (w.alloc o) base e v xs := h.keep fun g hg => Below.heap_alloc w o g (h.lt g hg).2
theorem Bts.below {B : Nat} (h : Bts w base e v xs) (hb : Below B w w') (hB : ∀ g, v.ownBlock = some g → g < B) : Bts w' base e v xs := h.keep fun g hg => hb.block g (hB g hg)
theorem Bts.grown {row : Option Nat} (h : Bts w base e v xs) (hb : w.grownBy w' row) (hne : v.ownBlock = none ∨ v.ownBlock ≠ row) : Bts w' base e v xs :=
  h.keep fun g hg => hb.block g (h.lt g hg).2 (fun k => by rcases hne with h | h; rw [hg] at h; cases h; exact h (hg.trans k))
theorem Bts.still (h : Bts w base e v xs) (k : Still w w') : Bts w' base e v xs := h.keep fun _ _ => by rw [k.heap]
theorem Bts.len (h : Bts w base e v xs) : ∃ A cap, v = .slice A xs.length cap ∧ xs.length ≤ cap ∧ cap ≤ maxLen := by
  rcases h with ⟨rfl, rfl⟩ | ⟨g, cap, cur, rfl, _, _, h1, _, h3, _⟩
  · exact ⟨none, 0, rfl, Nat.le_refl _, by unfold maxLen; omega⟩
  · exact ⟨_, cap, rfl, h1, h3⟩
/-- 'b[:n:n]'. -/
theorem Bts.cut {A : Option Addr} {m cap n : Nat} (h : Bts w base e (.slice A m cap) xs) (hn : n ≤ xs.length) : Bts w base e (.slice A n n) (xs.take n) := by
  rcases h with ⟨h, rfl⟩ | ⟨g, cap', cur, h, hb, hg, h1, h2, h3, h4⟩
  · injection h with h _ _
    subst h
    obtain rfl : n = 0 := by simpa using hn
    exact .inl ⟨rfl, rfl⟩
  · injection h with h _ h'
    subst h h'
    have hl : (xs.take n).length = n := by rw [List.length_take]; omega
    refine .inr ⟨g, n, cur, by rw [hl], hb, hg, by omega, by omega, by omega, ?_⟩
    rw [hl]
    have := congrArg (List.take n) h4
    rw [List.take_take, Nat.min_eq_left hn] at this
    rw [this]
    simp [Lib.byteCells]
theorem Bts.cell {g m cap i : Nat} (h : Bts w base e (.slice (some ⟨g, 0, none⟩) m cap) xs) (hi : i < xs.length) : w.cell? ⟨g, i, none⟩ = some (.int .u8 (((xs.getD i 0).toNat : Nat) : Int)) := by
  rcases h with ⟨h, _⟩ | ⟨g', cap', cur, h, _, hg, h1, h2, h3, h4⟩
  · cases h
  · injection h with h _ _
    injection h with h
    injection h with h
    subst h
    rw [cell_of_row w g i cur e _ hg]
    have h5 : cur.toList[i]? = (Lib.byteCells xs)[i]? := by rw [← h4, List.getElem?_take, if_pos hi]
    rw [Array.getElem?_toList] at h5
    rw [h5, List.getD_eq_getElem?_getD, List.getElem?_eq_getElem hi]
    simp [Lib.byteCells, hi]
theorem Bts.unfrozen {g m cap : Nat} (h : Bts w base e (.slice (some ⟨g, 0, none⟩) m cap) xs) (i : Nat) : w.frozen? ⟨g, i, none⟩ = false := by
  rcases h with ⟨h, _⟩ | ⟨g', cap', cur, h, _, hg, _⟩
  · cases h
  · injection h with h _ _
    injection h with h
    injection h with h
    subst h
    simp [World.frozen?, hg]
theorem Bts.put {g m cap i : Nat} (h : Bts w base e (.slice (some ⟨g, 0, none⟩) m cap) xs) (b : UInt8) :
    Bts (w.setCell ⟨g, i, none⟩ (.int .u8 (b.toNat : Int))) base e (.slice (some ⟨g, 0, none⟩) m cap) (xs.set i b) := by
  rcases h with ⟨h, _⟩ | ⟨g', cap', cur, h, hb, hg, h1, h2, h3, h4⟩
  · cases h
  · injection h with h hm h'
    injection h with h
    injection h with h
    subst h hm h'
    refine .inr ⟨g, cap, cur.setIfInBounds i (.int .u8 (b.toNat : Int)), by rw [List.length_set], hb, ?_, by rw [List.length_set]; exact h1, by simpa using h2, h3, ?_⟩
    · simp [World.setCell, Array.getElem?_modify, hg]
    · rw [List.length_set, Array.toList_setIfInBounds, List.take_set, h4]
      simp [Lib.byteCells, List.map_set]
theorem Bts.conv {P : Program} (h : Bts w base e v xs) (src dst : TypeId) (hs : P.underlying src = some (.slice e)) (he : P.underlying e = some (.int .u8)) (hd : P.underlying dst = some .string) :
    (convert src dst v).run P w = .ok (.string ⟨xs.toArray⟩) w := by
  rcases h with ⟨rfl, rfl⟩ | ⟨g, cap, cur, rfl, _, hg, _, _, _, htk⟩
  · exact Lib.run_convert_nil_bytes w src dst e 0 hs he hd
  · exact run_convert_bytes_back w src dst e _ _ xs hs he hd (Lib.bytes_of_row hg htk)

/-- 'append(b, s...)'. -/
theorem Bts.append {P : Program} (h : Bts w base e v xs) (t u ty : TypeId) (i : TypeInfo) (ht : P.underlying t = some (.slice e)) (hu : P.underlying u = some .string) (hi : P.info? e = some i) (hz : i.zero = some (.int .u8 0))
    (hsize : i.size = 1) (hby : i.bytes = 1) (s : List UInt8) (hs : xs.length + s.length ≤ 140737488355328) (hb : base ≤ w.heap.size) :
    ∃ v' w', (Builtin.append_ #[t, u] ty #[v, .string ⟨s.toArray⟩]).run P w = .ok v' w' ∧ Bts w' base e v' (xs ++ s) ∧ Grew w v w' v' := by
  have hsz : (ByteArray.mk s.toArray).size = s.length := by simp [ByteArray.size]
  have hstr : Lib.strCells ⟨s.toArray⟩ = Lib.byteCells s := by simp [Lib.strCells, Lib.byteCells]
  rcases h with ⟨rfl, rfl⟩ | ⟨g, cap, cur, rfl, hbg, hg, h1, h2, h3, h4⟩
  · obtain ⟨v', w', hr, ho, hgr, hn⟩ := Lib.run_append_own_string (P := P) w base t u ty e i ht hu hi hz hsize hby _ 0 [] (World.ownsRow_nil w base e 1) ⟨s.toArray⟩ (by rw [hsz]; unfold maxLen; omega) (by rw [hsz]; omega) hb
    refine ⟨v', w', hr, Bts.of_owns ?_, hgr, fun k hk => ?_⟩
    · unfold Owns
      rw [hsz, hstr, Nat.zero_add] at ho
      exact ho
    · by_cases hs0 : s.length = 0
      · rw [hn.2 ⟨rfl, by rw [hsz]; exact hs0⟩] at hk
        simp [Value.ownBlock] at hk
      · have hr2 := run_append_nil_string (P := P) w t u ty e i (.int .u8 0) ht hu hi hz ⟨s.toArray⟩ (by rw [hsz]; omega) (by rw [hsz]; omega) (by rw [hby, hsz]; omega)
        rw [hr] at hr2
        injection hr2 with h4 _
        rw [h4] at hk
        simp [Value.ownBlock] at hk
        exact .inr (by omega)
  · by_cases hroom : xs.length + s.length ≤ cap
    · have hr := Lib.run_append_room_string (P := P) w t u ty e i ht hu hi hsize g xs.length cap cur hg ⟨s.toArray⟩ (by rw [hsz]; exact hroom) (by rw [hsz]; omega)
      rw [hsz, hstr] at hr
      refine ⟨_, _, hr, .inr ⟨g, cap, _, by rw [List.length_append], hbg, setRow_heap w g cur _ e _ hg, by rw [List.length_append]; exact hroom, ?_, h3, ?_⟩, ⟨rfl, rfl, rfl, by simp, fun k _ hk => setRow_other w g k _ (fun e => hk (by simp [Value.ownBlock, e]))⟩, fun k hk => .inl hk⟩
      · simp only [List.size_toArray, List.length_append, List.length_take, List.length_drop, Array.length_toList, Lib.byteCells_length]
        omega
      · have e2 : (xs ++ s).length = (cur.toList.take xs.length ++ Lib.byteCells s).length := by rw [h4]; simp [Lib.byteCells_length]
        show List.take (xs ++ s).length (cur.toList.take xs.length ++ Lib.byteCells s ++ cur.toList.drop (xs.length + s.length)) = _
        rw [e2, List.take_left, h4, Lib.byteCells_append]
    · have holds : ∀ j u, (Lib.byteCells xs)[j]? = some u → w.cell? ((⟨g, 0, none⟩ : Addr).add j) = some u := by
        intro j u hu
        have hj : j < xs.length := by have := (List.getElem?_eq_some_iff.1 hu).1; rwa [Lib.byteCells_length] at this
        have e2 : (⟨g, 0, none⟩ : Addr).add j = ⟨g, j, none⟩ := by cases j <;> simp [Addr.add]
        rw [e2, cell_of_row w g j cur e _ hg, ← Array.getElem?_toList]
        rw [← h4, List.getElem?_take, if_pos hj] at hu
        exact hu
      have hr := Lib.run_append_grow_string (P := P) w t u ty e i (.int .u8 0) ht hu hi hz ⟨g, 0, none⟩ xs.length cap (Lib.byteCells xs) (by rw [hsize, Lib.byteCells_length, Nat.mul_one]) holds ⟨s.toArray⟩ (by rw [hsz]; omega) (by rw [hsz]; omega)
        (by rw [hby]; exact growslice_fits (by rw [hsz]; omega) (by rw [hsz]; omega))
      have hge := grownCap_ge w (xs.length + s.length) cap e
      have hcm : grownCap w (xs.length + s.length) cap e ≤ maxLen := grownCap_le_maxLen w (xs.length + s.length) cap e (by unfold maxLen; omega)
      rw [hsz, hstr] at hr
      refine ⟨_, _, hr, .inr ⟨w.heap.size, _, _, by rw [List.length_append], hb, heap_alloc_new w.drew _, by rw [List.length_append]; exact hge, ?_, hcm, ?_⟩, ⟨rfl, rfl, rfl, by simp, fun k hk _ => heap_alloc_old w.drew _ k hk⟩, fun k hk => .inr (by have : w.heap.size = k := Option.some.inj hk; omega)⟩
      · have hz1 : (Value.int IntKind.u8 0).cells.size = 1 := rfl
        simp only [Array.size_append, List.size_toArray, size_zeroCells, hz1, Lib.byteCells_length]
        omega
      · simp only [Array.toList_append, List.append_assoc]
        rw [← List.append_assoc, Lib.byteCells_append]
        have e2 : (xs ++ s).length = (Lib.byteCells xs ++ Lib.byteCells s).length := by simp [Lib.byteCells_length]
        rw [e2]
        exact List.take_left
theorem Bts.append_op {P : Program} {ops : Array Oper} {rest : List Oper} {o : Oper} {a : Act} {Q : Exit → Act → World → Prop} (hgd : o.guard = none) (sl x : Operand) (t u : TypeId)
    (hop : o.op = .call { callee := .builtin .append, args := #[sl, x], argTypes := #[t, u] }) (h : Bts w base e v xs) (i : TypeInfo) (ht : P.underlying t = some (.slice e)) (hu : P.underlying u = some .string) (hi : P.info? e = some i) (hz : i.zero = some (.int .u8 0))
    (hsize : i.size = 1) (hby : i.bytes = 1) (s : List UInt8) (hsl : a.eval sl = v) (hx : a.eval x = .string ⟨s.toArray⟩) (hs : xs.length + s.length ≤ 140737488355328) (hb : base ≤ w.heap.size)
    (hQ : ∀ v' w', Bts w' base e v' (xs ++ s) → Grew w v w' v' → wpList P ops Q rest (a.put o.dst v') w') : wpList P ops Q (o :: rest) a w := by
  obtain ⟨v', w', hr, h2, h3⟩ := h.append (P := P) t u o.type i ht hu hi hz hsize hby s hs hb
  refine wpList_plain hgd fun K hK => ?_
  unfold Oper.wp execOp
  simp only [hop, resolve, invoke, builtin, Sem.run_bind, Sem.run_pure, Result.andThen_ok, List.map_toArray, List.map_cons, List.map_nil, hsl, hx, hr]
  exact hK _ _ (hQ v' w' h2 h3)
end
end Go.Proofs.Ytmdoicemkddpgaa
