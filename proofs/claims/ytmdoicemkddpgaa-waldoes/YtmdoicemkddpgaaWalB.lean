/- The walks of package wal: Scan; rows of texts that grow. -/
import Derived.Test.YtmdoicemkddpgaaWalA
import Derived.Test.YtmdoicemkddpgaaDiskD
namespace Go.Proofs.Ytmdoicemkddpgaa
open Go.RowKit

theorem info_str : (Try.prog.info? 9).map (fun i => (i.zero, i.size, i.bytes)) = some (some (.string ⟨#[]⟩), 1, 16) := by kernel_rfl
def strCells (ss : List (List UInt8)) : List Value := ss.map fun s => .string ⟨s.toArray⟩
/-- The slice value v owns just the texts ss. -/
def OwnsS (w : World) (base : Nat) (v : Value) (ss : List (List UInt8)) : Prop := w.ownsRow base 9 1 v ss.length (strCells ss)
section
variable {w w' : World} {base : Nat} {v : Value} {ss : List (List UInt8)}
theorem OwnsS.nil (w : World) (base : Nat) : OwnsS w base (.slice none 0 0) [] := World.ownsRow_nil w base _ 1
theorem OwnsS.len (h : OwnsS w base v ss) : ∃ a c, v = .slice a ss.length c ∧ ss.length ≤ c ∧ c ≤ maxLen := by
  rcases h.2 with ⟨rfl, h0⟩ | ⟨g, cap, _, rfl, _, _, h1, h2, _⟩
  · exact ⟨none, 0, by rw [h0], by omega, by unfold maxLen; omega⟩
  · exact ⟨_, _, rfl, h1, h2⟩
theorem OwnsS.lt (h : OwnsS w base v ss) : ∀ g, v.ownBlock = some g → base ≤ g ∧ g < w.heap.size := World.ownsRow.lt h
theorem OwnsS.keep (h : OwnsS w base v ss) (k : ∀ g, v.ownBlock = some g → w'.heap[g]? = w.heap[g]?) : OwnsS w' base v ss := by
  refine ⟨h.1, ?_⟩
  rcases h.2 with hn | ⟨g, cap, cur, rfl, hb2, hgg, rest⟩
  · exact .inl hn
  · exact .inr ⟨g, cap, cur, rfl, hb2, (k g rfl).trans hgg, rest⟩
theorem OwnsS.below {B : Nat} (h : OwnsS w base v ss) (hb : Below B w w') (hB : w.heap.size ≤ B) : OwnsS w' base v ss := h.keep fun g hg => hb.block g (by have := (h.lt g hg).2; omega)
theorem OwnsS.alloc (h : OwnsS w base v ss) (o : Obj) : OwnsS (w.alloc o) base v ss := h.keep fun g hg => Below.heap_alloc w o g (h.lt g hg).2
theorem OwnsS.strs {A : Option Addr} {n c : Nat} (h : OwnsS w base (.slice A n c) ss) : Strs w A n ss := by
  rcases h.2 with ⟨h1, h0⟩ | ⟨g, cap, cur, h1, _, hg, h2, _, h3, h4⟩
  · injection h1 with h1 h2 _
    subst h1 h2
    exact ⟨h0, fun h => absurd h (by omega)⟩
  · injection h1 with h1 h5 _
    subst h1 h5
    refine ⟨rfl, fun _ => ⟨g, 0, rfl, (Array.getElem?_eq_some_iff.1 hg).1, fun j hj => ?_⟩⟩
    rw [Nat.zero_add, cell_of_row w g j cur _ _ hg, ← Array.getElem?_toList]
    have e : (cur.toList.take (ss.length * 1))[j]? = (strCells ss)[j]? := by rw [h4]
    rw [List.getElem?_take, if_pos (by omega)] at e
    rw [e]
    simp [strCells, hj]
theorem OwnsS.apart {g : Nat} {t : TypeId} {cs : Array Value} (h : OwnsS w base v ss) (hg : At w g t cs) (hne : 9 ≠ t) : v.ownBlock ≠ some g := by
  rcases h.2 with ⟨rfl, _⟩ | ⟨g', cap, cur, rfl, _, hh, _⟩
  · intro h; simp [Value.ownBlock] at h
  · intro he
    obtain rfl : g' = g := Option.some.inj he
    exact hne (hg.type_eq hh).symm
end

/-- 'append(list, text)', the text's row just laid at block H. -/
theorem OwnsS.append_op {ops : Array Oper} {rest : List Oper} {o : Oper} {a : Act} {Q : Exit → Act → World → Prop} {w : World} {base : Nat} {v : Value} {ss : List (List UInt8)} (hgd : o.guard = none) (sl x : Operand) (t : TypeId)
    (hop : o.op = .call { callee := .builtin .append, args := #[sl, x], argTypes := #[t, t] }) (ht : Try.prog.underlying t = some (.slice 9)) (h : OwnsS w base v ss) (s : List UInt8) (ty : TypeId)
    (hsl : a.eval sl = v) (hx : a.eval x = .slice (some ⟨w.heap.size, 0, none⟩) 1 1) (hs : ss.length ≤ 1000000) (hb : base ≤ w.heap.size)
    (hQ : ∀ v' w', OwnsS w' base v' (ss ++ [s]) → (∃ g c, v' = .slice (some ⟨g, 0, none⟩) (ss.length + 1) c) → Grew w v w' v' → wpList Try.prog ops Q rest (a.put o.dst v') w') :
    wpList Try.prog ops Q (o :: rest) a (w.alloc (.cells #[.string ⟨s.toArray⟩] ty)) := by
  obtain ⟨i0, hi0, hz0, hz1, hz2⟩ := info_parts info_str
  have hA := At.fresh w ty #[.string ⟨s.toArray⟩]
  have hs1 : (w.alloc (.cells #[.string ⟨s.toArray⟩] ty)).heap.size = w.heap.size + 1 := by simp
  refine wpList_append_lies _ hgd sl x t hop base 9 i0 (.string ⟨#[]⟩) 1 16 ht hi0 hz0 hz1 hz2 rfl (by omega) v ss.length (strCells ss) hsl (h.alloc _) ⟨w.heap.size, 0, none⟩ 1 1 [.string ⟨s.toArray⟩] hx rfl ?_ ?_ (by omega) (by unfold maxLen; omega) (by omega) (by omega) _ rfl ?_
  · intro j u hu
    match j, hu with
    | 0, hu =>
      have : Value.string ⟨s.toArray⟩ = u := by simpa using hu
      subst this
      exact At.cell hA 0
  · intro u hu
    simp at hu
    subst hu
    rfl
  · intro g cap w' ho hg hat hlt
    refine hQ _ w' ?_ ⟨g, cap, rfl⟩ ?_
    · unfold OwnsS
      rw [List.length_append]
      have e : strCells (ss ++ [s]) = strCells ss ++ [.string ⟨s.toArray⟩] := by simp [strCells]
      rw [e]
      exact ho
    · refine (Grew.alloc w v _).trans (Grew.append hg ?_)
      exact hat

set_option maxRecDepth 100000 in
set_option maxHeartbeats 400000 in
theorem scan_any (s : List UInt8) (hs : s.length ≤ 1000000) (w : World) :
    Calls Try.prog 24 #[.string ⟨s.toArray⟩] w fun e w' => ∃ A c, e = .returned (.tuple #[.slice A (scanOf s).length c, .int .i64 (took (scanOf s) : Nat)]) ∧ OwnsS w' w.heap.size (.slice A (scanOf s).length c) (scanOf s) ∧ Below w.heap.size w w' := by
  go_enter Try.func24, Try.ntmps24
  go_wp2_with fail
  go_step3
  go_wp2_with fail
  go_step3
  go_wp2_with fail
  go_loopw [4, 5] (fun t k wr => ∃ (rs : List (List UInt8)) (n : Nat), k = .int .i64 n ∧ OwnsS wr w.heap.size t rs ∧ Hid (took rs = n) ∧ n ≤ s.length ∧ Hid (rs ++ scanOf (s.drop n) = scanOf s) ∧ rs.length ≤ 1000000 ∧ Below w.heap.size w wr) (fun _ k _ => s.length - (intOf k).toNat)
  case atStart => exact ⟨[], 0, rfl, OwnsS.nil _ _, rfl, by omega, by show _ = _; simp, by simp, Below.refl _ _⟩
  case round =>
    obtain ⟨rs, n, rfl, hO, hT, hn, hS, hr, hb⟩ := hrel
    have hf := fun w => first_any (s.drop n) (by rw [List.length_drop]; omega) w
    have e1 : (ByteArray.mk s.toArray).extract n s.length = ⟨(s.drop n).toArray⟩ := extract_drop s n
    have hdl : (s.drop n).length = s.length - n := List.length_drop
    obtain ⟨q, hq⟩ : ∃ q, s.drop n = q := ⟨_, rfl⟩
    have hdd : ∀ k, s.drop (n + k) = q.drop k := fun k => by rw [← hq, List.drop_drop]
    rw [hq] at hf e1 hS hdl
    have HD := Lib.hid hdd
    have HL := Lib.hid hdl
    clear hq hdd hdl
    cases hc : firstOf q with
    | none =>
      rw [hc] at hf
      obtain ⟨A, c, rfl, _, _⟩ := hO.len
      have HC := Lib.hid hc
      clear hc
      go_wp2_with fail
      refine (hf _).mono ?_
      rintro e w1 ⟨rfl, hb1⟩
      unfold checkRes
      go_wp2_with fail
      have hE : rs = scanOf s := by have := hS.out; rw [scanOf_none HC.out, List.append_nil] at this; exact this
      have hO1 := hO.below hb1 (Nat.le_refl _)
      refine bodyPost_ret (P := Try.prog) (fn := Try.f24) (R := fun e w' => ∃ A c, e = .returned (.tuple #[.slice A (scanOf s).length c, .int .i64 (took (scanOf s) : Nat)]) ∧ OwnsS w' w.heap.size (.slice A (scanOf s).length c) (scanOf s) ∧ Below w.heap.size w w') (results_tmp2 rfl _ _ _) rfl ?_
      rw [← hE, hT.out]
      exact ⟨A, c, rfl, hO1, below_join hb hb1 hb.size⟩
    | some r =>
      rw [hc] at hf
      obtain ⟨f1, f2, f3, f4⟩ := firstOf_some hc
      have hst := scanOf_some hc
      have hl := HL.out
      have hrn : n + (r.length + 6) ≤ s.length := by omega
      have hsz := fun w => size_any r (by omega) w
      have hrs6 := took_ge rs
      rw [hT.out] at hrs6
      have HS := Lib.hid hst
      clear hc f1 f3 f4 hl hst
      obtain ⟨A, c, rfl, _, _⟩ := hO.len
      go_wp2_with fail
      refine (hf _).mono ?_
      rintro e w1 ⟨rfl, hb1⟩
      have hO1 := hO.below hb1 (Nat.le_refl _)
      have hb1' : Below w.heap.size w w1 := below_join hb hb1 hb.size
      unfold checkRes
      go_wp2_with (at_builtin; refine OwnsS.append_op rfl (.tmp 15) (.tmp 17) 28 rfl Try.underlying28 hO1 r 9 rfl rfl hr hb1'.size ?_)
      intro v2 w2 hO2 g2 c2 hv2 hG2
      subst hv2
      go_wp2_with fail
      refine (hsz w2).mono ?_
      rintro e w3 ⟨rfl, rfl⟩
      go_wp2_with fail
      refine ⟨⟨rs ++ [r], n + (r.length + 6), by go_num, hO2, ?_, hrn, ?_, by simp; omega, ?_⟩, by simp [intOf]; omega⟩
      · show _ = _
        rw [took_snoc, hT.out]
      · show _ = _
        rw [HD.out, ← hS.out, HS.out, List.append_assoc]
        rfl
      · exact ⟨hG2.grown.os.trans hb1'.os, hG2.grown.tape.trans hb1'.tape, hG2.grown.output.trans hb1'.output, Nat.le_trans hb1'.size hG2.grown.size, fun k hk => (hG2.grown.block k (by have := hb1'.size; omega) (fun e => by have := (hO1.lt k e.symm).1; omega)).trans (hb1'.block k hk)⟩
end Go.Proofs.Ytmdoicemkddpgaa
