/- The law DiskRoom. -/
import Derived.Test.YtdgcjhkncokieaaDiskDoes
namespace Go.Proofs.Ytdgcjhkncokieaa
open Go.RowKit

theorem on_up (D : Dk) : D.on.down = false := by
  unfold Dk.on
  split
  · rfl
  · rename_i h
    simpa using h

set_option maxRecDepth 100000 in
set_option maxHeartbeats 800000 in
theorem diskRoom_live (a : Int) (A : Option Addr) (n cap : Nat) (cs : List Cl) (s : List UInt8) (w : World) (hv : Clls w A n cs) (hok : ∀ c ∈ cs, c.Ok) (hn : n ≤ maxLen) (hs : s.length ≤ 4096) (hg : greatC cs = false) :
    Calls Try.prog 6 #[.int .i64 a, .slice A n cap, .string ⟨s.toArray⟩] w fun e w' => e = .returned (.bool true) ∧ Below w.heap.size w w' := by
  have hs' : decide ((4096 : Int) < (s.length : Int)) = false := by simp; omega
  obtain ⟨hs60, hs4⟩ := small_ofC hg
  have hvl := hv.1
  go_enter Try.func6, Try.ntmps6
  go_wp2_with fail
  refine (alive_any _).mono ?_
  rintro e w1 ⟨rfl, b1⟩
  go_wp2_with fail
  refine (great_any A n cap cs w1 (hv.below b1) hok hn).mono ?_
  rintro e w2 ⟨rfl, c2⟩
  rw [hg]
  have b2 := below_in' b1 c2
  clear c2 b1
  go_wp2_with fail
  refine (new_any a w2).mono ?_
  rintro e w3 ⟨rfl, hD3, c3, hs3⟩
  go_wp2_with fail
  refine (rnew_any a w3).mono ?_
  rintro e w4 ⟨rfl, hR4, c4, hs4'⟩
  have hT4 := Two.fresh hD3 hs3 hR4 c4
  have b4 := below_in' (below_in' b2 c3) c4
  have hB := b2.size
  have hz4 : w2.heap.size ≤ w4.heap.size := by omega
  rw [hs3]
  clear hD3 hR4 c3 c4 hs3 hs4' b2
  generalize w2.heap.size = B at *
  have hbo4 : (dkNew a).boots ≤ 1 := Nat.le_refl _
  generalize dkNew a = D0 at *
  have H4 := Lib.hid hs4
  have HO := Lib.hid hok
  clear hs4 hok
  go_wp2_with fail
  go_loopw [29] (fun i wr => ∃ (k : Nat) (v : Value) (D : Dk), k ≤ n ∧ i = .int .i64 k ∧ Two wr B B (B + 1) v D ∧ D.boots ≤ 1 + k ∧ Below w.heap.size w wr ∧ B ≤ wr.heap.size) (fun i _ => n - (intOf i).toNat)
  case atStart => exact ⟨0, _, D0, by omega, rfl, hT4, by omega, b4, hz4⟩
  case round =>
    clear hT4 b4 hz4 hbo4
    obtain ⟨k, v, D, hk, rfl, hT, hbo, hb, hz⟩ := hrel
    by_cases hlt : k < n
    · obtain ⟨b, off, rfl, hbl, hcell⟩ := (hv.below hb).2 (by omega)
      obtain ⟨c0, c1, c2, c3⟩ := hcell k hlt
      have hs1 := smallC_at H4.out (k := k) (by omega)
      clear hcell
      generalize cs.getD k default = x at *
      obtain ⟨kk, ss, nn, tt⟩ := x
      simp only at c0 c1 c2 c3 hs1
      have hTa := hT.alloc (.cells #[.int .i64 kk, .string ⟨ss.toArray⟩, .int .i64 nn, .int .u8 (tt.toNat : Int)] 31)
      have hba : Below w.heap.size w (wr.alloc (.cells #[.int .i64 kk, .string ⟨ss.toArray⟩, .int .i64 nn, .int .u8 (tt.toNat : Int)] 31)) := hb.alloc hb.size _
      have hza : B ≤ (wr.alloc (.cells #[.int .i64 kk, .string ⟨ss.toArray⟩, .int .i64 nn, .int .u8 (tt.toNat : Int)] 31)).heap.size := by simp; omega
      go_wp2_with fail
      refine (does_any hTa hza (by omega) ⟨kk, ss, nn, tt⟩ (by show ss.length ≤ 1000000; omega)).mono ?_
      rintro e w6 ⟨rfl, v6, hT6, hM6⟩
      have b6 : Below w.heap.size w w6 := hba.trans (hM6.below hTa hB hza)
      have hz6 : B ≤ w6.heap.size := Nat.le_trans hza hM6.size
      have hbo6 := call_boots D ⟨kk, ss, nn, tt⟩
      generalize D.call ⟨kk, ss, nn, tt⟩ = D6 at *
      clear hTa hba hza hM6
      go_wp2_with fail
      exact ⟨⟨k + 1, v6, D6, by omega, by go_num, hT6, by omega, b6, hz6⟩, by simp [intOf]; omega⟩
    · obtain rfl : n = k := by omega
      have hbo' : D.boots < 1000000 := by omega
      clear hv hs60 hvl hbo H4 HO
      go_wp2_with fail
      refine (on_any hT.dsk hbo').mono ?_
      rintro e w6 ⟨rfl, hD6, hG6⟩
      have b6 := Below.wgrew hb hG6 hB (fun g hg => Nat.le_trans hB (hT.dsk.lo g hg)) hb.size
      have hz6 : B ≤ w6.heap.size := Nat.le_trans hz hG6.size
      have hk6 := on_ok hT.ok
      have hup := on_up D
      clear hG6 hT hb hz hbo'
      generalize D.on = E at *
      have hrd : E.read = E.xs := by unfold Dk.read; rw [hup]; rfl
      go_wp2_with fail
      refine (read_any hD6).mono ?_
      rintro e w7 ⟨rfl, rfl⟩
      rw [hrd]
      go_wp2_with fail
      refine (left_any hD6 hk6).mono ?_
      rintro e w7 ⟨rfl, k7⟩
      have hD7 := hD6.still k7
      have b7 := b6.trans (k7.below w.heap.size)
      have hz7 : B ≤ w7.heap.size := by rw [k7.size]; exact hz6
      clear hD6 b6 hz6 k7
      go_wp2_with fail
      refine (append_any hD7 hk6 s hz7).mono ?_
      rintro e w8 ⟨rfl, v8, hD8, hG8⟩
      have b8 := Below.wgrew b7 hG8 hB (fun g hg => Nat.le_trans hB (hD7.lo g hg)) b7.size
      have hk8 := append_ok hk6 s
      have q1 := hk6.full
      have q2 := hk6.size
      clear hG8 b7 hz7 hD7
      by_cases hf : E.size < E.xs.length + s.length
      · have e1 : E.append s = (6, E) := by unfold Dk.append; rw [if_neg (by rw [hup]; exact Bool.false_ne_true), if_pos hf]
        rw [e1] at hD8 hk8 ⊢
        have ht : decide (((E.size - E.xs.length : Nat) : Int) < (s.length : Int)) = true := by simp; omega
        have hrd8 := fun w' (k : Still w8 w') => read_any (hD8.still k)
        have hlf8 := fun w' (k : Still w8 w') => left_any (hD8.still k) hk8
        rw [hrd] at hrd8
        clear e1
        simp only at hlf8
        obtain ⟨L, hL⟩ : ∃ L, E.size - E.xs.length = L := ⟨_, rfl⟩
        rw [hL] at ht hlf8 ⊢
        go_wp2_with fail
        refine (hrd8 _ (Still.refl _)).mono ?_
        rintro e w9 ⟨rfl, rfl⟩
        go_wp2_with fail
        refine (hlf8 _ (Still.refl _)).mono ?_
        rintro e w9 ⟨rfl, k9⟩
        go_wp2_with fail
        go_ret
        exact ⟨rfl, b8.trans (k9.below _)⟩
      · have e1 : E.append s = (0, { E with xs := E.xs ++ s }) := by unfold Dk.append; rw [if_neg (by rw [hup]; exact Bool.false_ne_true), if_neg hf]
        rw [e1] at hD8 hk8 ⊢
        have ht : decide (((E.size - E.xs.length : Nat) : Int) < (s.length : Int)) = false := by simp; omega
        have hrd8 := fun w' (k : Still w8 w') => read_any (hD8.still k)
        have hlf8 := fun w' (k : Still w8 w') => left_any (hD8.still k) hk8
        unfold Dk.read at hrd8
        simp only [hup] at hrd8
        clear e1
        simp only [List.length_append] at hlf8
        have hL2 : E.size - (E.xs.length + s.length) = E.size - E.xs.length - s.length := by omega
        rw [hL2] at hlf8
        obtain ⟨L, hL⟩ : ∃ L, E.size - E.xs.length = L := ⟨_, rfl⟩
        rw [hL] at ht hlf8 ⊢
        have hcat : ((E.xs ++ s) == (⟨E.xs.toArray⟩ ++ ⟨s.toArray⟩ : ByteArray).toList) = true := by rw [str_app]; simp
        have hsum : ¬ 9223372036854775807 < E.xs.length + s.length := by omega
        have hwl : IntKind.i64.wrap ((L : Int) - (s.length : Int)) = ((L - s.length : Nat) : Int) := by rw [IntKind.wrap_i64]; omega
        have hLs : s.length ≤ L := by omega
        have hrd9 : Calls Try.prog 18 #[.pointer (some ⟨B, 0, none⟩)] w8 fun e w' => e = .returned (.string ⟨(E.xs ++ s).toArray⟩) ∧ w8 = w' := hrd8 _ (Still.refl _)
        obtain ⟨y, hy⟩ : ∃ y, E.xs ++ s = y := ⟨_, rfl⟩
        rw [hy] at hcat hrd9
        clear hy hrd8 hL2
        go_wp2_with fail
        refine hrd9.mono ?_
        rintro e w9 ⟨rfl, rfl⟩
        go_wp2_with fail
        refine (hlf8 _ (Still.refl _)).mono ?_
        rintro e w9 ⟨rfl, k9⟩
        go_wp2_with fail
        go_ret
        exact ⟨rfl, b8.trans (k9.below _)⟩

set_option maxRecDepth 100000 in
set_option maxHeartbeats 400000 in
theorem diskRoom_main (a : Int) (A : Option Addr) (n cap : Nat) (cs : List Cl) (s : List UInt8) (w : World) (_ : I64 a) (hv : Clls w A n cs) (hok : ∀ c ∈ cs, c.Ok) (hn : n ≤ maxLen) (hs : s.length ≤ maxLen) :
    Calls Try.prog 6 #[.int .i64 a, .slice A n cap, .string ⟨s.toArray⟩] w fun e w' => e = .returned (.bool true) ∧ Below w.heap.size w w' := by
  unfold maxLen at hs
  cases hg : greatC cs with
  | false =>
    by_cases h4 : s.length ≤ 4096
    · exact diskRoom_live a A n cap cs s w hv hok hn h4 hg
    · have hs' : decide ((4096 : Int) < (s.length : Int)) = true := by simp; omega
      go_enter Try.func6, Try.ntmps6
      go_wp2_with fail
      refine (alive_any _).mono ?_
      rintro e w1 ⟨rfl, b1⟩
      go_wp2_with fail
      refine (great_any A n cap cs w1 (hv.below b1) hok hn).mono ?_
      rintro e w2 ⟨rfl, c2⟩
      rw [hg]
      go_wp2_with fail
      go_ret
      exact ⟨rfl, below_in' b1 c2⟩
  | true =>
    go_enter Try.func6, Try.ntmps6
    go_wp2_with fail
    refine (alive_any _).mono ?_
    rintro e w1 ⟨rfl, b1⟩
    go_wp2_with fail
    refine (great_any A n cap cs w1 (hv.below b1) hok hn).mono ?_
    rintro e w2 ⟨rfl, c2⟩
    rw [hg]
    go_wp2_with fail
    go_ret
    exact ⟨rfl, below_in' b1 c2⟩
end Go.Proofs.Ytdgcjhkncokieaa
