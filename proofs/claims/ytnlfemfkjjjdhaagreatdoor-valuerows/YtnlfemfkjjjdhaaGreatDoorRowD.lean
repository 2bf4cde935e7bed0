/- Rows of values in memory; the walk of package value's Read. -/
import Derived.Test.YtnlfemfkjjjdhaaGreatDoorRowC
namespace Go.Proofs.YtnlfemfkjjjdhaaGreatDoor
open Go.RowKit

def cellsV : List Vl → List Value
  | [] => []
  | v :: r => .int .i64 v.kind :: .int .i64 v.num :: .string ⟨v.text.toArray⟩ :: cellsV r
theorem cellsV_len : ∀ vs : List Vl, (cellsV vs).length = vs.length * 3
  | [] => rfl
  | v :: r => by simp [cellsV, cellsV_len r]; omega
theorem cellsV_snoc : ∀ (vs : List Vl) (v : Vl), cellsV (vs ++ [v]) = cellsV vs ++ [.int .i64 v.kind, .int .i64 v.num, .string ⟨v.text.toArray⟩]
  | [], v => rfl
  | a :: r, v => by simp [cellsV, cellsV_snoc r v]
theorem cellsV_at : ∀ (vs : List Vl) (j : Nat), j < vs.length → (cellsV vs)[j * 3]? = some (.int .i64 (vs.getD j default).kind) ∧ (cellsV vs)[j * 3 + 1]? = some (.int .i64 (vs.getD j default).num) ∧ (cellsV vs)[j * 3 + 2]? = some (.string ⟨(vs.getD j default).text.toArray⟩)
  | [], j, h => by simp at h
  | v :: r, 0, _ => ⟨rfl, rfl, rfl⟩
  | v :: r, j + 1, h => by
    obtain ⟨h1, h2, h3⟩ := cellsV_at r j (by simpa using h)
    have e : (j + 1) * 3 = j * 3 + 3 := by omega
    rw [e]
    simp only [cellsV, List.getD_cons_succ]
    exact ⟨by simpa using h1, by simpa using h2, by simpa using h3⟩
theorem cellsV_set : ∀ (vs : List Vl) (j : Nat) (v : Vl), j < vs.length → (((cellsV vs).set (j * 3) (.int .i64 v.kind)).set (j * 3 + 1) (.int .i64 v.num)).set (j * 3 + 2) (.string ⟨v.text.toArray⟩) = cellsV (vs.set j v)
  | [], j, v, h => by simp at h
  | a :: r, 0, v, _ => rfl
  | a :: r, j + 1, v, h => by
    have ih := cellsV_set r j v (by simpa using h)
    have e : (j + 1) * 3 = j * 3 + 3 := by omega
    rw [e]
    simp only [cellsV, List.set_cons_succ]
    rw [ih]
theorem vals_of_at {w : World} {g n : Nat} {vs : List Vl} {cs : Array Value} (h : At w g 23 cs) (hc : cs.toList.take (n * 3) = cellsV vs) (hn : vs.length = n) : Vals w (some ⟨g, 0, none⟩) n vs := by
  refine ⟨hn, fun _ => ⟨g, 0, rfl, h.lt, fun j hj => ?_⟩⟩
  obtain ⟨h1, h2, h3⟩ := cellsV_at vs j (by omega)
  rw [← hc] at h1 h2 h3
  rw [List.getElem?_take] at h1 h2 h3
  rw [if_pos (by omega)] at h1 h2 h3
  refine ⟨?_, ?_, ?_⟩
  · rw [h.cell, Nat.zero_add, ← Array.getElem?_toList]; exact h1
  · rw [h.cell, Nat.zero_add, ← Array.getElem?_toList]; exact h2
  · rw [h.cell, Nat.zero_add, ← Array.getElem?_toList]; exact h3
theorem make_vals (n : Nat) (h : n ≤ 6) (w : World) : (Instr.makeSlice 34 (.int .i64 (n : Int)) (.int .i64 (n : Int))).run Tryz.prog w = .ok (.slice (some ⟨w.heap.size, 0, none⟩) n n) (w.alloc (.cells (cellsV (List.replicate n default)).toArray 23)) := by
  obtain rfl | rfl | rfl | rfl | rfl | rfl | rfl : n = 0 ∨ n = 1 ∨ n = 2 ∨ n = 3 ∨ n = 4 ∨ n = 5 ∨ n = 6 := by omega
  all_goals kernel_rfl

theorem rdM_le (l : List UInt8) (f : Bool) : (rdM l f).1 ≤ 6 ∧ (rdM l f).2.1.length ≤ l.length := by
  unfold rdM
  split
  · split
    · simp
    · simp; omega
  · simp
theorem takeP_len (l : List UInt8) (f : Bool) : (takeP l f).2.1.length ≤ l.length := by
  unfold takeP
  split
  · have h1 := rdI_len l f
    have h2 := rdI_len (rdI l f).2.1 (rdI l f).2.2
    have h3 := (rdS_len (rdI (rdI l f).2.1 (rdI l f).2.2).2.1 (rdI (rdI l f).2.1 (rdI l f).2.2).2.2).1
    simp only
    omega
  · simp
theorem takesP_le : ∀ (n : Nat) (l : List UInt8) (f : Bool), (takesP n l f).2.1.length ≤ l.length
  | 0, _, _ => Nat.le_refl _
  | n + 1, l, f => Nat.le_trans (takeP_len _ _) (takesP_le n l f)
theorem set_next (xs : List Vl) (k n : Nat) (v : Vl) (hx : xs.length = k) (hk : k < n) : (xs ++ List.replicate (n - k) default).set k v = (xs ++ [v]) ++ List.replicate (n - (k + 1)) default := by
  obtain ⟨m, hm⟩ : ∃ m, n - k = m + 1 := ⟨n - k - 1, by omega⟩
  have e : n - (k + 1) = m := by omega
  rw [hm, e, List.replicate_succ, ← hx]
  simp

set_option maxRecDepth 100000 in
set_option maxHeartbeats 1600000 in
theorem vread_any (s : List UInt8) (hs : s.length ≤ 1000000) (w : World) :
    Calls Tryz.prog 17 #[.string ⟨s.toArray⟩] w fun e w' => Below w.heap.size w w' ∧
      ((∃ vs A cap, readP s = some vs ∧ vs.length ≤ 6 ∧ e = .returned (.tuple #[.slice A vs.length cap, .int .i64 0]) ∧ Vals w' A vs.length vs) ∨ (readP s = none ∧ e = .returned (.tuple #[.slice none 0 0, .int .i64 4]))) := by
  have HP : Hid (readP s = if (takesP (rdM s false).1 (rdM s false).2.1 (rdM s false).2.2).2.2 = true ∨ (takesP (rdM s false).1 (rdM s false).2.1 (rdM s false).2.2).2.1 ≠ [] then none else some (takesP (rdM s false).1 (rdM s false).2.1 (rdM s false).2.2).1) := rfl
  obtain ⟨hn6, hll⟩ := rdM_le s false
  go_enter Tryz.func17, Tryz.ntmps17
  go_wp2_with fail
  refine (open_any s w).mono ?_
  rintro e w1 ⟨rfl, h1, r1⟩
  have b1 : Below w.heap.size w w1 := (Below.refl _ _).grown r1 (Nat.le_refl _) (fun k h => by cases h)
  go_wp2_with fail
  refine (rM_any w.heap.size s false w1 h1 (by unfold maxLen; omega)).mono ?_
  rintro e w2 ⟨rfl, h2, r2⟩
  have b2 : Below w.heap.size w w2 := b1.grown r2 b1.size (fun k h => by injection h; omega)
  generalize rdM s false = a at *
  obtain ⟨n, l, f⟩ := a
  simp only at hn6 hll h2 HP ⊢
  have hmk := make_vals n hn6
  have hl2 := At.lt h2
  have h3 : Rd (w2.alloc (.cells (cellsV (List.replicate n default)).toArray 23)) w.heap.size l f := At.alloc h2 _
  have b3 : Below w.heap.size w (w2.alloc (.cells (cellsV (List.replicate n default)).toArray 23)) := b2.alloc b2.size _
  have hg3 := At.fresh w2 23 (cellsV (List.replicate n default)).toArray
  go_wp2_with fail
  go_loopw [14] (fun i wr => ∃ k : Nat, k ≤ n ∧ i = .int .i64 k ∧ Rd wr w.heap.size (takesP k l f).2.1 (takesP k l f).2.2 ∧ At wr w2.heap.size 23 (cellsV ((takesP k l f).1 ++ List.replicate (n - k) default)).toArray ∧ Below w.heap.size w wr) (fun i _ => n - (intOf i).toNat)
  case atStart => exact ⟨0, by omega, rfl, h3, hg3, b3⟩
  case round =>
    obtain ⟨k, hk, rfl, hr, hg, hb⟩ := hrel
    by_cases hlt : k < n
    · have hlen := takesP_len k l f
      have hle := takesP_le k l f
      have hgl := hg.lt
      have htn : takesP (k + 1) l f = ((takesP k l f).1 ++ [(takeP (takesP k l f).2.1 (takesP k l f).2.2).1], (takeP (takesP k l f).2.1 (takesP k l f).2.2).2) := rfl
      have HTN := Lib.hid htn
      clear htn
      generalize takesP k l f = a at *
      obtain ⟨xs, l', f'⟩ := a
      simp only at hr hg hlen hle HTN
      have hxl : k < (xs ++ List.replicate (n - k) default).length := by simp; omega
      obtain ⟨d0, d1, d2⟩ := cellsV_at (xs ++ List.replicate (n - k) default) k hxl
      have hset := fun v => cellsV_set (xs ++ List.replicate (n - k) default) k v hxl
      have hnx := fun v => set_next xs k n v hlen hlt
      have HSET := Lib.hid hset
      have HNX := Lib.hid hnx
      clear hset hnx
      go_wp2_with fail
      refine (vtake_any w.heap.size l' f' wr hr (by omega)).mono ?_
      rintro e w4 ⟨rfl, h4, r4⟩
      have hg4 := At.grown hg r4 (fun e => by injection e; omega)
      have b4 : Below w.heap.size w w4 := hb.grown r4 hb.size (fun k h => by injection h; omega)
      generalize takeP l' f' = a at *
      obtain ⟨⟨kk, nn, tt⟩, l'', f''⟩ := a
      simp only at h4 HTN ⊢
      unfold Vl.val
      simp only
      have c0 : w4.cell? ⟨w2.heap.size, k * 3, none⟩ = some (.int .i64 ((xs ++ List.replicate (n - k) default).getD k default).kind) := by rw [At.cell hg4]; simpa using d0
      have c1 : w4.cell? ⟨w2.heap.size, k * 3 + 1, none⟩ = some (.int .i64 ((xs ++ List.replicate (n - k) default).getD k default).num) := by rw [At.cell hg4]; simpa using d1
      have c2 : w4.cell? ⟨w2.heap.size, k * 3 + 2, none⟩ = some (.string ⟨((xs ++ List.replicate (n - k) default).getD k default).text.toArray⟩) := by rw [At.cell hg4]; simpa using d2
      have f0 := At.unfrozen hg4 (k * 3)
      have f1 := At.unfrozen hg4 (k * 3 + 1)
      have f2 := At.unfrozen hg4 (k * 3 + 2)
      have hput := At.put (At.put (At.put hg4 (k * 3) (.int .i64 kk)) (k * 3 + 1) (.int .i64 nn)) (k * 3 + 2) (.string ⟨tt.toArray⟩)
      simp only [List.setIfInBounds_toArray] at hput
      rw [HSET.out ⟨kk, nn, tt⟩, HNX.out] at hput
      clear d0 d1 d2 hg hr
      generalize (xs ++ List.replicate (n - k) default).getD k default = dd at *
      go_wp2_with fail
      refine ⟨⟨k + 1, by omega, by go_num, ?_, ?_, ?_⟩, by simp [intOf]; omega⟩
      · rw [HTN.out]
        exact ((At.elsewhere h4 (p := ⟨w2.heap.size, k * 3, none⟩) (show w.heap.size ≠ w2.heap.size by omega) _).elsewhere (p := ⟨w2.heap.size, k * 3 + 1, none⟩) (show w.heap.size ≠ w2.heap.size by omega) _).elsewhere (p := ⟨w2.heap.size, k * 3 + 2, none⟩) (show w.heap.size ≠ w2.heap.size by omega) _
      · rw [HTN.out]
        exact hput
      · exact ((b4.setCell (p := ⟨w2.heap.size, k * 3, none⟩) (show w.heap.size ≤ w2.heap.size by omega) _).setCell (p := ⟨w2.heap.size, k * 3 + 1, none⟩) (show w.heap.size ≤ w2.heap.size by omega) _).setCell (p := ⟨w2.heap.size, k * 3 + 2, none⟩) (show w.heap.size ≤ w2.heap.size by omega) _
    · obtain rfl : n = k := by omega
      have hlen := takesP_len n l f
      generalize takesP n l f = a at *
      obtain ⟨xs, l', f'⟩ := a
      simp only at hr hg hlen HP
      have hvals : Vals wr (some ⟨w2.heap.size, 0, none⟩) n xs := vals_of_at hg (by rw [Nat.sub_self]; simp only [List.replicate_zero, List.append_nil]; rw [List.take_of_length_le (by rw [cellsV_len]; omega)]) hlen
      subst hlen
      go_wp2_with fail
      refine (end_any w.heap.size l' f' wr hr).mono ?_
      rintro e w' ⟨rfl, rfl⟩
      by_cases hq : f' = true ∨ l' ≠ []
      · have he : endOf l' f' = 4 := by unfold endOf; rw [if_pos hq]
        have HP2 := Lib.hid (HP.out.trans (if_pos hq))
        rw [he]
        clear he
        go_wp2_with fail
        go_ret2
        exact ⟨hb, .inr ⟨HP2.out, rfl⟩⟩
      · have he : endOf l' f' = 0 := by unfold endOf; rw [if_neg hq]
        have HP2 := Lib.hid (HP.out.trans (if_neg hq))
        rw [he]
        clear he
        go_wp2_with fail
        go_ret2
        exact ⟨hb, .inl ⟨xs, _, _, HP2.out, hn6, rfl, hvals⟩⟩
end Go.Proofs.YtnlfemfkjjjdhaaGreatDoor
