/- The walks of the reference of layer 5: Trim, Off. -/
import Derived.Test.YtdgcjhkncokieaaDiskR
import Derived.Deep.RegionHeld3
namespace Go.Proofs.Ytdgcjhkncokieaa
open Go.RowKit
section
variable {w : World} {m : Nat} {D : Dk}
theorem ref_trim (hR : Ref w m D) (n : Nat) (hn : n ≤ D.xs.length) : Ref ((w.setCell ⟨m, 0, none⟩ (.string ⟨(D.xs.take n).toArray⟩)).setCell ⟨m, 1, none⟩ (.string ⟨#[]⟩)) m { D with xs := D.xs.take n, safe := n } := by
  have hp := (At.put hR 0 (.string ⟨(D.xs.take n).toArray⟩)).put 1 (.string ⟨#[]⟩)
  unfold Ref
  have e : (D.xs.take n).drop n = [] := List.drop_eq_nil_of_le (by rw [List.length_take]; omega)
  simp only [List.take_take, Nat.min_self, e]
  exact hp

set_option maxRecDepth 100000 in
set_option maxHeartbeats 400000 in
theorem rtrim_any (hR : Ref w m D) (hk : D.Ok) (n : Int) :
    Calls Try.prog 27 #[.pointer (some ⟨m, 0, none⟩), .int .i64 n] w fun e w' => e = .returned (.int .i64 ((D.trim n).1 : Nat)) ∧ Ref w' m (D.trim n).2 ∧ w.grownBy w' (some m) := by
  have q := fun k h => ref_trim hR k h
  obtain ⟨xs, safe, size, boots, down⟩ := D
  have h1 := hk.full
  have h2 := hk.size
  have h3 := hk.safe
  simp only at h1 h2 h3
  have c0 : w.cell? ⟨m, 0, none⟩ = some (.string ⟨(xs.take safe).toArray⟩) := At.cell hR 0
  have c1 : w.cell? ⟨m, 1, none⟩ = some (.string ⟨(xs.drop safe).toArray⟩) := At.cell hR 1
  have c3 : w.cell? ⟨m, 3, none⟩ = some (.bool down) := At.cell hR 3
  have c4 : w.cell? ⟨m, 4, none⟩ = some (.int .i64 boots) := At.cell hR 4
  have f0 := At.unfrozen hR 0
  have f1 := At.unfrozen hR 1
  have f3 := At.unfrozen hR 3
  have f4 := At.unfrozen hR 4
  have la : (xs.take safe).length = safe := by rw [List.length_take]; omega
  have ll : (xs.drop safe).length = xs.length - safe := List.length_drop
  have hal : xs.take safe ++ xs.drop safe = xs := List.take_append_drop safe xs
  have hall := Lib.hid hal
  simp only at q
  have hln : (xs.take safe).length + (xs.drop safe).length ≤ 2000000 := by omega
  have hlx : (xs.take safe).length + (xs.drop safe).length = xs.length := by omega
  unfold Dk.trim
  simp only
  cases down
  · rw [if_neg Bool.false_ne_true]
    clear hal
    obtain ⟨a, ha⟩ : ∃ a, xs.take safe = a := ⟨_, rfl⟩
    obtain ⟨l, hl⟩ : ∃ l, xs.drop safe = l := ⟨_, rfl⟩
    rw [ha] at c0 la hall hln hlx
    rw [hl] at c1 ll hall hln hlx
    clear ha hl la ll
    by_cases hn : n < 0
    · rw [if_pos (.inl hn)]
      clear hlx q
      go_enter Try.func27, Try.ntmps27
      go_wp2_with fail
      go_region
      all_goals
        go_wp2_with fail
        go_ret
        exact ⟨rfl, hR.still (Still.drew _), grown_still (Still.drew _)⟩
    · by_cases hg : (xs.length : Int) < n
      · rw [if_pos (.inr hg)]
        have hg' : (a.length : Int) + (l.length : Int) < n := by omega
        clear hlx q hg
        go_enter Try.func27, Try.ntmps27
        go_wp2_with fail
        go_region
        all_goals
          go_wp2_with fail
          go_ret
          exact ⟨rfl, hR.still (Still.drew _), grown_still (Still.drew _)⟩
      · rw [if_neg (by omega)]
        obtain ⟨k, rfl⟩ : ∃ k : Nat, n = (k : Int) := ⟨n.toNat, by omega⟩
        have q1 := q k (by omega)
        have hkl : k ≤ a.length + l.length := by omega
        clear hlx q hg hn
        go_enter Try.func27, Try.ntmps27
        go_wp2_with fail
        go_region
        all_goals
          go_wp2_with fail
          go_ret
          rw [str_app, hall.out, extract_take]
          exact ⟨rfl, q1.still (Still.drew _), grownBy_tr (grownBy_tr grown_set grown_set) (grown_still (Still.drew _))⟩
  · rw [if_pos rfl]
    clear q
    go_enter Try.func27, Try.ntmps27
    go_wp2_with fail
    go_ret
    exact ⟨rfl, hR, World.grownBy.refl _ _⟩

theorem turned_take {xs : List UInt8} {safe K : Nat} (t : UInt8) (h : safe + K ≤ xs.length) (h0 : 0 < K) : (turned xs (safe + K) t).take safe = xs.take safe := by
  unfold turned
  rw [List.take_append_of_le_length (by rw [List.length_take]; omega), List.take_take, Nat.min_eq_left (by omega)]
theorem turned_drop {xs : List UInt8} {safe K : Nat} (t : UInt8) (h : safe + K ≤ xs.length) (h0 : 0 < K) : (turned xs (safe + K) t).drop safe = ((xs.drop safe).take K).take (K - 1) ++ [((xs.drop safe).take K).getD (K - 1) 0 ^^^ t] := by
  unfold turned
  rw [List.drop_append_of_le_length (by rw [List.length_take]; omega), List.drop_take, List.take_take, Nat.min_eq_left (by omega), show safe + K - 1 - safe = K - 1 by omega]
  congr 3
  rw [List.getD_eq_getElem?_getD, List.getD_eq_getElem?_getD, List.getElem?_take, if_pos (by omega), List.getElem?_drop, show safe + (K - 1) = safe + K - 1 by omega]
theorem ref_off0 (hR : Ref w m D) (hk : D.Ok) : Ref ((w.setCell ⟨m, 3, none⟩ (.bool true)).setCell ⟨m, 1, none⟩ (.string ⟨#[]⟩)) m { D with xs := D.xs.take D.safe, down := true } := by
  have hp := (At.put hR 3 (.bool true)).put 1 (.string ⟨#[]⟩)
  have h3 := hk.safe
  unfold Ref
  have e : (D.xs.take D.safe).drop D.safe = [] := List.drop_eq_nil_of_le (by rw [List.length_take]; omega)
  simp only [List.take_take, Nat.min_self, e]
  exact hp

set_option maxRecDepth 100000 in
set_option maxHeartbeats 400000 in
theorem roff_mid (hR : Ref w m D) (hk : D.Ok) (hd : D.down = false) (K : Nat) (t : UInt8) (hK : K ≤ D.xs.length - D.safe) (h0 : 0 < K) :
    Calls Try.prog 28 #[.pointer (some ⟨m, 0, none⟩), .int .i64 K, .int .u8 (t.toNat : Int)] w fun e w' => e = .returned (.tuple #[]) ∧ Ref w' m { D with xs := turned D.xs (D.safe + K) t, down := true } ∧ w.grownBy w' (some m) := by
  obtain ⟨xs, safe, size, boots, down⟩ := D
  have h1 := hk.full
  have h2 := hk.size
  have h3 := hk.safe
  simp only at h1 h2 h3
  have c0 : w.cell? ⟨m, 0, none⟩ = some (.string ⟨(xs.take safe).toArray⟩) := At.cell hR 0
  have c1 : w.cell? ⟨m, 1, none⟩ = some (.string ⟨(xs.drop safe).toArray⟩) := At.cell hR 1
  have c3 : w.cell? ⟨m, 3, none⟩ = some (.bool down) := At.cell hR 3
  have c4 : w.cell? ⟨m, 4, none⟩ = some (.int .i64 boots) := At.cell hR 4
  have f0 := At.unfrozen hR 0
  have f1 := At.unfrozen hR 1
  have f3 := At.unfrozen hR 3
  have f4 := At.unfrozen hR 4
  have la : (xs.take safe).length = safe := by rw [List.length_take]; omega
  have ll : (xs.drop safe).length = xs.length - safe := List.length_drop
  have hal : xs.take safe ++ xs.drop safe = xs := List.take_append_drop safe xs
  have hall := Lib.hid hal
  simp only at hd hK
  subst hd
  have hln : (xs.take safe).length + (xs.drop safe).length ≤ 2000000 := by omega
  clear hal
  obtain ⟨a, ha⟩ : ∃ a, xs.take safe = a := ⟨_, rfl⟩
  obtain ⟨l, hl⟩ : ∃ l, xs.drop safe = l := ⟨_, rfl⟩
  rw [ha] at c0 la hall hln
  rw [hl] at c1 ll hall hln
  have hKl : K ≤ l.length := by omega
  have HL := Lib.hid hl
  have e1 := Lib.hid (turned_take (xs := xs) (safe := safe) (K := K) t (by omega) h0)
  have e2 := Lib.hid (turned_drop (xs := xs) (safe := safe) (K := K) t (by omega) h0)
  clear ha hl la ll
  go_enter Try.func28, Try.ntmps28
  go_wp2_with fail
  rw [extract_take]
  have hyl : (l.take K).length = K := by rw [List.length_take]; omega
  have hA2 := (At.put hR 3 (.bool true)).put 1 (.string ⟨(l.take K).toArray⟩)
  have g2 := grownBy_tr (grown_set (w := w) (m := m) (i := 3) (u := .bool true)) (grown_set (m := m) (i := 1) (u := .string ⟨(l.take K).toArray⟩))
  generalize (w.setCell ⟨m, 3, none⟩ (.bool true)).setCell ⟨m, 1, none⟩ (.string ⟨(l.take K).toArray⟩) = W at *
  obtain ⟨y, hy⟩ : ∃ y, l.take K = y := ⟨_, rfl⟩
  rw [hy] at hA2 hyl ⊢
  have HY := Lib.hid hy
  clear hy hKl c0 c1 c3 c4 f0 f1 f3 f4 hK
  have c1 : W.cell? ⟨m, 1, none⟩ = some (.string ⟨y.toArray⟩) := At.cell hA2 1
  have f1 : W.frozen? ⟨m, 1, none⟩ = false := At.unfrozen hA2 1
  have hml := At.lt hA2
  have hix := fun (ww : World) => run_index_list (P := Try.prog) 9 y ((K : Int) - 1) (K - 1) _ Try.underlying9 (by omega) (by omega) rfl ww
  have hsl : ∀ ww : World, (Instr.slice 9 (.string ⟨y.toArray⟩) none (some (.int .i64 ((K : Int) - 1))) none).run Try.prog ww = .ok (.string ⟨(y.take (K - 1)).toArray⟩) ww := fun ww => by
    have h := run_slice_string_h (P := Try.prog) ww 9 ⟨y.toArray⟩ Try.underlying9 .i64 ((K : Int) - 1) (by omega) (by simp [ByteArray.size]; omega)
    rw [show ((K : Int) - 1).toNat = K - 1 by omega, extract_take] at h
    exact h
  have hwk : IntKind.i64.wrap ((K : Int) - 1) = (K : Int) - 1 := by rw [IntKind.wrap_i64]; omega
  have htl : (y.take (K - 1)).length = K - 1 := by rw [List.length_take]; omega
  obtain ⟨z, hz⟩ : ∃ z, y.take (K - 1) = z := ⟨_, rfl⟩
  rw [hz] at hsl htl
  have HZ := Lib.hid hz
  clear hz
  have hzl : ¬ 9223372036854775807 < z.length + 1 := by omega
  obtain ⟨x, hx⟩ : ∃ x, y.getD (K - 1) 0 = x := ⟨_, rfl⟩
  rw [hx] at hix
  have HX := Lib.hid hx
  clear hx
  have hxt := UInt8.toNat_lt (x ^^^ t)
  have hcv : ∀ ww : World, (convert 44 9 (.slice (some ⟨ww.heap.size, 0, none⟩) 1 1)).run Try.prog (ww.alloc (.cells #[.int .u8 (bits .xor .u8 (x.toNat : Int) (t.toNat : Int))] 5)) = .ok (.string ⟨[x ^^^ t].toArray⟩) (ww.alloc (.cells #[.int .u8 (bits .xor .u8 (x.toNat : Int) (t.toNat : Int))] 5)) := fun ww => by
    have h := conv_one (P := Try.prog) ww 44 9 5 Try.underlying44 Try.underlying5 Try.underlying9 (x ^^^ t).toNat hxt _ (xor_u8 x t)
    rw [show (x ^^^ t).toNat.toUInt8 = x ^^^ t from UInt8.ofNat_toNat] at h
    exact h
  have hcvW : (convert 44 9 (.slice (some ⟨W.heap.size, 0, none⟩) 1 1)).run Try.prog (W.alloc (.cells #[.int .u8 (bits .xor .u8 (x.toNat : Int) (t.toNat : Int))] 5)).drew = .ok (.string ⟨[x ^^^ t].toArray⟩) (W.alloc (.cells #[.int .u8 (bits .xor .u8 (x.toNat : Int) (t.toNat : Int))] 5)).drew := hcv W.drew
  clear hcv
  have hnew := World.new_ne W ⟨m, 1, none⟩ c1
  go_region
  all_goals
    go_wp2_with fail
    go_end0
    rw [str_app]
    have q := hA2.put 1 (.string ⟨(z ++ [x ^^^ t]).toArray⟩)
    have q' : Ref (W.setCell ⟨m, 1, none⟩ (.string ⟨(z ++ [x ^^^ t]).toArray⟩)) m ⟨turned xs (safe + K) t, safe, size, boots, true⟩ := by
      unfold Ref
      simp only
      rw [e1.out, e2.out, HL.out, HY.out, HZ.out, HX.out]
      exact q
    refine ⟨rfl, (At.alloc q' _).keep rfl, ?_⟩
    exact grownBy_tr (grownBy_tr (grownBy_tr g2 grown_set) (World.grownBy_alloc _ _ _)) (grown_still (Still.drew _))

set_option maxRecDepth 100000 in
set_option maxHeartbeats 400000 in
theorem roff_great (hR : Ref w m D) (hk : D.Ok) (hd : D.down = false) (n : Int) (K : Nat) (t : UInt8) (hK : K = D.xs.length - D.safe) (hn : (K : Int) < n) (h0 : 0 < K) :
    Calls Try.prog 28 #[.pointer (some ⟨m, 0, none⟩), .int .i64 n, .int .u8 (t.toNat : Int)] w fun e w' => e = .returned (.tuple #[]) ∧ Ref w' m { D with xs := turned D.xs (D.safe + K) t, down := true } ∧ w.grownBy w' (some m) := by
  obtain ⟨xs, safe, size, boots, down⟩ := D
  have h1 := hk.full
  have h2 := hk.size
  have h3 := hk.safe
  simp only at h1 h2 h3
  have c0 : w.cell? ⟨m, 0, none⟩ = some (.string ⟨(xs.take safe).toArray⟩) := At.cell hR 0
  have c1 : w.cell? ⟨m, 1, none⟩ = some (.string ⟨(xs.drop safe).toArray⟩) := At.cell hR 1
  have c3 : w.cell? ⟨m, 3, none⟩ = some (.bool down) := At.cell hR 3
  have c4 : w.cell? ⟨m, 4, none⟩ = some (.int .i64 boots) := At.cell hR 4
  have f0 := At.unfrozen hR 0
  have f1 := At.unfrozen hR 1
  have f3 := At.unfrozen hR 3
  have f4 := At.unfrozen hR 4
  have la : (xs.take safe).length = safe := by rw [List.length_take]; omega
  have ll : (xs.drop safe).length = xs.length - safe := List.length_drop
  have hal : xs.take safe ++ xs.drop safe = xs := List.take_append_drop safe xs
  have hall := Lib.hid hal
  simp only at hd hK
  subst hd
  have hln : (xs.take safe).length + (xs.drop safe).length ≤ 2000000 := by omega
  clear hal
  obtain ⟨a, ha⟩ : ∃ a, xs.take safe = a := ⟨_, rfl⟩
  obtain ⟨l, hl⟩ : ∃ l, xs.drop safe = l := ⟨_, rfl⟩
  rw [ha] at c0 la hall hln
  rw [hl] at c1 ll hall hln
  have hKl : K ≤ l.length := by omega
  have HKL := Lib.hid (show l.length = K by omega)
  have hnl : (l.length : Int) < n := by omega
  have hKb : K ≤ 2000000 := by omega
  have hl0 : 0 < l.length := by omega
  have HL := Lib.hid hl
  have e1 := Lib.hid (turned_take (xs := xs) (safe := safe) (K := K) t (by omega) h0)
  have e2 := Lib.hid (turned_drop (xs := xs) (safe := safe) (K := K) t (by omega) h0)
  clear ha hl la ll hn hK
  go_enter Try.func28, Try.ntmps28
  go_wp2_with fail
  rw [HKL.out, extract_take]
  have hyl : (l.take K).length = K := by rw [List.length_take]; omega
  have hA2 := (At.put hR 3 (.bool true)).put 1 (.string ⟨(l.take K).toArray⟩)
  have g2 := grownBy_tr (grown_set (w := w) (m := m) (i := 3) (u := .bool true)) (grown_set (m := m) (i := 1) (u := .string ⟨(l.take K).toArray⟩))
  generalize (w.setCell ⟨m, 3, none⟩ (.bool true)).setCell ⟨m, 1, none⟩ (.string ⟨(l.take K).toArray⟩) = W at *
  obtain ⟨y, hy⟩ : ∃ y, l.take K = y := ⟨_, rfl⟩
  rw [hy] at hA2 hyl ⊢
  have HY := Lib.hid hy
  clear hy hKl c0 c1 c3 c4 f0 f1 f3 f4 hnl hl0
  have c1 : W.cell? ⟨m, 1, none⟩ = some (.string ⟨y.toArray⟩) := At.cell hA2 1
  have f1 : W.frozen? ⟨m, 1, none⟩ = false := At.unfrozen hA2 1
  have hml := At.lt hA2
  have hix := fun (ww : World) => run_index_list (P := Try.prog) 9 y ((K : Int) - 1) (K - 1) _ Try.underlying9 (by omega) (by omega) rfl ww
  have hsl : ∀ ww : World, (Instr.slice 9 (.string ⟨y.toArray⟩) none (some (.int .i64 ((K : Int) - 1))) none).run Try.prog ww = .ok (.string ⟨(y.take (K - 1)).toArray⟩) ww := fun ww => by
    have h := run_slice_string_h (P := Try.prog) ww 9 ⟨y.toArray⟩ Try.underlying9 .i64 ((K : Int) - 1) (by omega) (by simp [ByteArray.size]; omega)
    rw [show ((K : Int) - 1).toNat = K - 1 by omega, extract_take] at h
    exact h
  have hwk : IntKind.i64.wrap ((K : Int) - 1) = (K : Int) - 1 := by rw [IntKind.wrap_i64]; omega
  have htl : (y.take (K - 1)).length = K - 1 := by rw [List.length_take]; omega
  obtain ⟨z, hz⟩ : ∃ z, y.take (K - 1) = z := ⟨_, rfl⟩
  rw [hz] at hsl htl
  have HZ := Lib.hid hz
  clear hz
  have hzl : ¬ 9223372036854775807 < z.length + 1 := by omega
  obtain ⟨x, hx⟩ : ∃ x, y.getD (K - 1) 0 = x := ⟨_, rfl⟩
  rw [hx] at hix
  have HX := Lib.hid hx
  clear hx
  have hxt := UInt8.toNat_lt (x ^^^ t)
  have hcv : ∀ ww : World, (convert 44 9 (.slice (some ⟨ww.heap.size, 0, none⟩) 1 1)).run Try.prog (ww.alloc (.cells #[.int .u8 (bits .xor .u8 (x.toNat : Int) (t.toNat : Int))] 5)) = .ok (.string ⟨[x ^^^ t].toArray⟩) (ww.alloc (.cells #[.int .u8 (bits .xor .u8 (x.toNat : Int) (t.toNat : Int))] 5)) := fun ww => by
    have h := conv_one (P := Try.prog) ww 44 9 5 Try.underlying44 Try.underlying5 Try.underlying9 (x ^^^ t).toNat hxt _ (xor_u8 x t)
    rw [show (x ^^^ t).toNat.toUInt8 = x ^^^ t from UInt8.ofNat_toNat] at h
    exact h
  have hcvW : (convert 44 9 (.slice (some ⟨W.heap.size, 0, none⟩) 1 1)).run Try.prog (W.alloc (.cells #[.int .u8 (bits .xor .u8 (x.toNat : Int) (t.toNat : Int))] 5)).drew = .ok (.string ⟨[x ^^^ t].toArray⟩) (W.alloc (.cells #[.int .u8 (bits .xor .u8 (x.toNat : Int) (t.toNat : Int))] 5)).drew := hcv W.drew
  clear hcv
  have hnew := World.new_ne W ⟨m, 1, none⟩ c1
  go_region
  all_goals
    go_wp2_with fail
    go_end0
    rw [str_app]
    have q := hA2.put 1 (.string ⟨(z ++ [x ^^^ t]).toArray⟩)
    have q' : Ref (W.setCell ⟨m, 1, none⟩ (.string ⟨(z ++ [x ^^^ t]).toArray⟩)) m ⟨turned xs (safe + K) t, safe, size, boots, true⟩ := by
      unfold Ref
      simp only
      rw [e1.out, e2.out, HL.out, HY.out, HZ.out, HX.out]
      exact q
    refine ⟨rfl, (At.alloc q' _).keep rfl, ?_⟩
    exact grownBy_tr (grownBy_tr (grownBy_tr g2 grown_set) (World.grownBy_alloc _ _ _)) (grown_still (Still.drew _))

set_option maxRecDepth 100000 in
set_option maxHeartbeats 400000 in
theorem roff_small (hR : Ref w m D) (hk : D.Ok) (hd : D.down = false) (n : Int) (t : Int) (h0 : n ≤ 0) :
    Calls Try.prog 28 #[.pointer (some ⟨m, 0, none⟩), .int .i64 n, .int .u8 t] w fun e w' => e = .returned (.tuple #[]) ∧ Ref w' m { D with xs := D.xs.take D.safe, down := true } ∧ w.grownBy w' (some m) := by
  have q := ref_off0 hR hk
  obtain ⟨xs, safe, size, boots, down⟩ := D
  simp only at hd q
  subst hd
  have c1 : w.cell? ⟨m, 1, none⟩ = some (.string ⟨(xs.drop safe).toArray⟩) := At.cell hR 1
  have c3 : w.cell? ⟨m, 3, none⟩ = some (.bool false) := At.cell hR 3
  have f1 := At.unfrozen hR 1
  have f3 := At.unfrozen hR 3
  obtain ⟨l, hl⟩ : ∃ l, xs.drop safe = l := ⟨_, rfl⟩
  rw [hl] at c1
  clear hl
  by_cases hn : n < 0
  · go_enter Try.func28, Try.ntmps28
    go_wp2_with fail
    go_end0
    exact ⟨rfl, q, grownBy_tr grown_set grown_set⟩
  · obtain rfl : n = 0 := by omega
    go_enter Try.func28, Try.ntmps28
    go_wp2_with fail
    go_end0
    exact ⟨rfl, q, grownBy_tr grown_set grown_set⟩

set_option maxRecDepth 100000 in
set_option maxHeartbeats 400000 in
theorem roff_none (hR : Ref w m D) (hk : D.Ok) (hd : D.down = false) (n : Int) (t : Int) (h0 : 0 < n) (hl : D.xs.length = D.safe) :
    Calls Try.prog 28 #[.pointer (some ⟨m, 0, none⟩), .int .i64 n, .int .u8 t] w fun e w' => e = .returned (.tuple #[]) ∧ Ref w' m { D with xs := D.xs.take D.safe, down := true } ∧ w.grownBy w' (some m) := by
  have q := ref_off0 hR hk
  obtain ⟨xs, safe, size, boots, down⟩ := D
  simp only at hd q hl
  subst hd
  have e : xs.drop safe = [] := List.drop_eq_nil_of_le (by omega)
  have c1 : w.cell? ⟨m, 1, none⟩ = some (.string ⟨#[]⟩) := by have := At.cell hR 1; simp only [e] at this; exact this
  have c3 : w.cell? ⟨m, 3, none⟩ = some (.bool false) := At.cell hR 3
  have f1 := At.unfrozen hR 1
  have f3 := At.unfrozen hR 3
  clear hl e
  go_enter Try.func28, Try.ntmps28
  go_wp2_with fail
  go_end0
  exact ⟨rfl, q, grownBy_tr grown_set grown_set⟩

theorem roff_any (hR : Ref w m D) (hk : D.Ok) (n : Int) (t : UInt8) :
    Calls Try.prog 28 #[.pointer (some ⟨m, 0, none⟩), .int .i64 n, .int .u8 (t.toNat : Int)] w fun e w' => e = .returned (.tuple #[]) ∧ Ref w' m (D.off n t) ∧ w.grownBy w' (some m) := by
  have h3 := hk.safe
  unfold Dk.off
  by_cases hd : D.down = false
  · rw [if_neg (by rw [hd]; exact Bool.false_ne_true)]
    by_cases h0 : n ≤ 0
    · rw [if_pos (by unfold Dk.kept; omega)]
      exact roff_small hR hk hd n _ h0
    · by_cases hl : D.xs.length = D.safe
      · rw [if_pos (by unfold Dk.kept; omega)]
        exact roff_none hR hk hd n _ (by omega) hl
      · rw [if_neg (by unfold Dk.kept; omega)]
        by_cases hg : ((D.xs.length - D.safe : Nat) : Int) < n
        · have e : D.kept n = D.xs.length - D.safe := by unfold Dk.kept; omega
          rw [e]
          exact roff_great hR hk hd n _ t rfl hg (by omega)
        · obtain ⟨K, rfl⟩ : ∃ K : Nat, n = (K : Int) := ⟨n.toNat, by omega⟩
          have e : D.kept (K : Int) = K := by unfold Dk.kept; omega
          rw [e]
          exact roff_mid hR hk hd K t (by omega) (by omega)
  · have hd' : D.down = true := by simpa using hd
    rw [if_pos hd']
    have c3 : w.cell? ⟨m, 3, none⟩ = some (.bool true) := by have := At.cell hR 3; simp only [hd'] at this; exact this
    go_enter Try.func28, Try.ntmps28
    go_wp2_with fail
    refine bodyPost_ret (results_none rfl _ _ _) rfl ?_
    exact ⟨rfl, hR, World.grownBy.refl _ _⟩
end
end Go.Proofs.Ytdgcjhkncokieaa
