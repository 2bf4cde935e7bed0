/- The law DiskDoes. -/
import Derived.Test.YtdgcjhkncokieaaDiskV
namespace Go.Proofs.Ytdgcjhkncokieaa
open Go.RowKit

theorem smallC_at {cs : List Cl} (h : ∀ c ∈ cs, c.s.length ≤ 4096) {k : Nat} (hk : k < cs.length) : (cs.getD k default).s.length ≤ 4096 := by
  rw [List.getD_eq_getElem?_getD, List.getElem?_eq_getElem hk]
  exact h _ (List.getElem_mem hk)
theorem below_in' {w w1 w2 : World} (h : Below w.heap.size w w1) (k : Below w1.heap.size w1 w2) : Below w.heap.size w w2 := h.trans (k.mono h.size)
/-- Two new disks. -/
theorem Two.fresh {w1 w2 : World} {a : Int} {B : Nat} (h : Dsk w1 B B (.slice none 0 0) (dkNew a)) (hs : w1.heap.size = B + 1) (hr : Ref w2 w1.heap.size (dkNew a)) (hb : Below w1.heap.size w1 w2) : Two w2 B B (B + 1) (.slice none 0 0) (dkNew a) := by
  rw [hs] at hr hb
  exact ⟨h.below hb (by omega) (fun g hg => by simp [Value.ownBlock] at hg), hr, dkNew_ok a, Nat.le_refl _, by omega⟩

set_option maxRecDepth 100000 in
set_option maxHeartbeats 800000 in
theorem diskDoes_live (a : Int) (A : Option Addr) (n cap : Nat) (cs : List Cl) (w : World) (hv : Clls w A n cs) (hok : ∀ c ∈ cs, c.Ok) (hn : n ≤ maxLen) (hg : greatC cs = false) :
    Calls Try.prog 3 #[.int .i64 a, .slice A n cap] w fun e w' => e = .returned (.bool true) ∧ Below w.heap.size w w' := by
  obtain ⟨hs60, hs4⟩ := small_ofC hg
  have hvl := hv.1
  go_enter Try.func3, Try.ntmps3
  go_wp2_with fail
  refine (alive_any _).mono ?_
  rintro e w1 ⟨rfl, b1⟩
  go_wp2_with fail
  refine (great_any A n cap cs w1 (hv.below b1) hok hn).mono ?_
  rintro e w2 ⟨rfl, c2⟩
  rw [hg]
  have b2 := below_in' b1 c2
  clear c2 b1
  go_wp2_with fail
  refine (new_any a w2).mono ?_
  rintro e w3 ⟨rfl, hD3, c3, hs3⟩
  go_wp2_with fail
  refine (rnew_any a w3).mono ?_
  rintro e w4 ⟨rfl, hR4, c4, hs4'⟩
  have hT4 := Two.fresh hD3 hs3 hR4 c4
  have b4 := below_in' (below_in' b2 c3) c4
  have hB := b2.size
  have hz4 : w2.heap.size ≤ w4.heap.size := by omega
  rw [hs3]
  clear hD3 hR4 c3 c4 hs3 hs4' b2
  generalize w2.heap.size = B at *
  go_wp2_with fail
  refine (same_any hT4).mono ?_
  rintro e w5 ⟨rfl, k5⟩
  have hT5 := hT4.still k5
  have b5 := b4.trans (k5.below w.heap.size)
  have hz5 : B ≤ w5.heap.size := by rw [k5.size]; exact hz4
  have hbo5 : (dkNew a).boots ≤ 1 := Nat.le_refl _
  clear hT4 k5 b4 hz4
  generalize dkNew a = D0 at *
  have H4 := Lib.hid hs4
  have HO := Lib.hid hok
  clear hs4 hok
  go_wp2_with fail
  go_loopw [24] (fun i wr => ∃ (k : Nat) (v : Value) (D : Dk), k ≤ n ∧ i = .int .i64 k ∧ Two wr B B (B + 1) v D ∧ D.boots ≤ 1 + k ∧ Below w.heap.size w wr ∧ B ≤ wr.heap.size) (fun i _ => n - (intOf i).toNat)
  case atStart => exact ⟨0, _, D0, by omega, rfl, hT5, by omega, b5, hz5⟩
  case round =>
    clear hT5 b5 hz5 hbo5
    obtain ⟨k, v, D, hk, rfl, hT, hbo, hb, hz⟩ := hrel
    by_cases hlt : k < n
    · obtain ⟨b, off, rfl, hbl, hcell⟩ := (hv.below hb).2 (by omega)
      obtain ⟨c0, c1, c2, c3⟩ := hcell k hlt
      have hs1 := smallC_at H4.out (k := k) (by omega)
      clear hcell
      generalize cs.getD k default = x at *
      obtain ⟨kk, ss, nn, tt⟩ := x
      simp only at c0 c1 c2 c3 hs1
      have hTa := hT.alloc (.cells #[.int .i64 kk, .string ⟨ss.toArray⟩, .int .i64 nn, .int .u8 (tt.toNat : Int)] 31)
      have hba : Below w.heap.size w (wr.alloc (.cells #[.int .i64 kk, .string ⟨ss.toArray⟩, .int .i64 nn, .int .u8 (tt.toNat : Int)] 31)) := hb.alloc hb.size _
      have hza : B ≤ (wr.alloc (.cells #[.int .i64 kk, .string ⟨ss.toArray⟩, .int .i64 nn, .int .u8 (tt.toNat : Int)] 31)).heap.size := by simp; omega
      go_wp2_with fail
      refine (does_any hTa hza (by omega) ⟨kk, ss, nn, tt⟩ (by show ss.length ≤ 1000000; omega)).mono ?_
      rintro e w6 ⟨rfl, v6, hT6, hM6⟩
      have b6 : Below w.heap.size w w6 := hba.trans (hM6.below hTa hB hza)
      have hz6 : B ≤ w6.heap.size := Nat.le_trans hza hM6.size
      have hbo6 := call_boots D ⟨kk, ss, nn, tt⟩
      generalize D.call ⟨kk, ss, nn, tt⟩ = D6 at *
      clear hTa hba hza hM6
      go_wp2_with fail
      refine (same_any hT6).mono ?_
      rintro e w7 ⟨rfl, k7⟩
      go_wp2_with fail
      exact ⟨⟨k + 1, v6, D6, by omega, by go_num, hT6.still k7, by omega, b6.trans (k7.below _), by rw [k7.size]; exact hz6⟩, by simp [intOf]; omega⟩
    · obtain rfl : n = k := by omega
      clear hT
      go_wp2_with fail
      refine (nil_off 1 0 _).mono ?_
      rintro e w6 ⟨rfl, rfl⟩
      go_wp2_with fail
      refine (nil_on _).mono ?_
      rintro e w6 ⟨rfl, rfl⟩
      go_wp2_with fail
      refine (nil_append _ _).mono ?_
      rintro e w6 ⟨rfl, rfl⟩
      go_wp2_with fail
      refine (nil_sync _).mono ?_
      rintro e w6 ⟨rfl, rfl⟩
      go_wp2_with fail
      refine (nil_trim _ _).mono ?_
      rintro e w6 ⟨rfl, rfl⟩
      go_wp2_with fail
      refine (nil_read _).mono ?_
      rintro e w6 ⟨rfl, rfl⟩
      go_wp2_with fail
      refine (nil_down _).mono ?_
      rintro e w6 ⟨rfl, rfl⟩
      go_wp2_with fail
      refine (nil_safe _).mono ?_
      rintro e w6 ⟨rfl, rfl⟩
      go_wp2_with fail
      refine (nil_left _).mono ?_
      rintro e w6 ⟨rfl, rfl⟩
      go_wp2_with fail
      refine (nil_boots _).mono ?_
      rintro e w6 ⟨rfl, rfl⟩
      go_wp2_with fail
      go_ret
      exact ⟨rfl, hb⟩

set_option maxRecDepth 100000 in
set_option maxHeartbeats 400000 in
theorem diskDoes_main (a : Int) (A : Option Addr) (n cap : Nat) (cs : List Cl) (w : World) (_ : I64 a) (hv : Clls w A n cs) (hok : ∀ c ∈ cs, c.Ok) (hn : n ≤ maxLen) :
    Calls Try.prog 3 #[.int .i64 a, .slice A n cap] w fun e w' => e = .returned (.bool true) ∧ Below w.heap.size w w' := by
  cases hg : greatC cs with
  | false => exact diskDoes_live a A n cap cs w hv hok hn hg
  | true =>
    go_enter Try.func3, Try.ntmps3
    go_wp2_with fail
    refine (alive_any _).mono ?_
    rintro e w1 ⟨rfl, b1⟩
    go_wp2_with fail
    refine (great_any A n cap cs w1 (hv.below b1) hok hn).mono ?_
    rintro e w2 ⟨rfl, c2⟩
    rw [hg]
    go_wp2_with fail
    go_ret
    exact ⟨rfl, below_in' b1 c2⟩
end Go.Proofs.Ytdgcjhkncokieaa
