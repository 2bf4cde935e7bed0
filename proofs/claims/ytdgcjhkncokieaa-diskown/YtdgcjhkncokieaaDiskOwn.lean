/- The law DiskOwn. -/
import Derived.Test.YtdgcjhkncokieaaDiskKeeps
import Derived.Test.YtdgcjhkncokieaaLain
namespace Go.Proofs.Ytdgcjhkncokieaa
open Go.RowKit

/-- Two rows that lie apart. -/
def Sep (v v2 : Value) : Prop := ∀ g, v.ownBlock = some g → v2.ownBlock ≠ some g
theorem Sep.symm {v v2 : Value} (h : Sep v v2) : Sep v2 v := fun g hg e => h g e hg
theorem Two.below {w w' : World} {base b m : Nat} {v : Value} {D : Dk} (h : Two w base b m v D) (k : Below w.heap.size w w') : Two w' base b m v D :=
  ⟨h.dsk.below k h.dsk.at_.lt (fun g hg => (h.dsk.bts.lt g hg).2), At.below h.ref k (At.lt h.ref), h.ok, h.lb, h.lm⟩
/-- What moves one pair of disks leaves another pair alone. -/
theorem Two.keep {w w' : World} {base b m base1 b1 m1 : Nat} {v v1 v1' : Value} {D D1 : Dk} (h : Two w base b m v D) (h1 : Two w base1 b1 m1 v1 D1) (k : Moved w b1 m1 v1 w' v1') (hb : b ≠ b1) (hm : m ≠ m1) (hs : Sep v v1) :
    Two w' base b m v D ∧ Sep v v1' := by
  have hbm : b ≠ m1 := fun e => by
    have q1 := h.dsk.at_
    have q2 : At w m1 _ _ := h1.ref
    rw [← e] at q2
    exact absurd (At.type_eq q1 q2) (by decide)
  have hmb : m ≠ b1 := fun e => by
    have q1 := h1.dsk.at_
    have q2 : At w m _ _ := h.ref
    rw [e] at q2
    exact absurd (At.type_eq q1 q2) (by decide)
  have o1 : v1.ownBlock ≠ some b := h1.dsk.bts.apart h.dsk.at_ (by decide)
  have o2 : v1.ownBlock ≠ some m := h1.dsk.bts.apart h.ref (by decide)
  refine ⟨⟨⟨h.dsk.at_.keep (k.block b h.dsk.at_.lt hb hbm (fun e => o1 e.symm)), h.dsk.bts.keep fun g hg => k.block g (h.dsk.bts.lt g hg).2 (fun e => ?_) (fun e => ?_) (fun e => hs g hg e.symm)⟩, At.keep h.ref (k.block m (At.lt h.ref) hmb hm (fun e => o2 e.symm)), h.ok, h.lb, h.lm⟩, fun g hg e => ?_⟩
  · exact h.dsk.bts.apart h1.dsk.at_ (by decide) (by rw [← e]; exact hg)
  · exact h.dsk.bts.apart h1.ref (by decide) (by rw [← e]; exact hg)
  · rcases k.lies g e with e' | e'
    · exact hs g hg e'
    · have := (h.dsk.bts.lt g hg).2
      omega

set_option maxRecDepth 100000 in
set_option maxHeartbeats 800000 in
theorem diskOwn_live (a : Int) (A : Option Addr) (n cap : Nat) (cs : List Cl) (A2 : Option Addr) (n2 cap2 : Nat) (cs2 : List Cl) (w : World) (hv : Clls w A n cs) (hok : ∀ c ∈ cs, c.Ok) (hn : n ≤ maxLen) (hv2 : Clls w A2 n2 cs2) (hok2 : ∀ c ∈ cs2, c.Ok) (hn2 : n2 ≤ maxLen) (hg : greatC cs = false) (hg2 : greatC cs2 = false) :
    Calls Try.prog 5 #[.int .i64 a, .slice A n cap, .slice A2 n2 cap2] w fun e w' => e = .returned (.bool true) ∧ Below w.heap.size w w' := by
  obtain ⟨hs60, hs4⟩ := small_ofC hg
  obtain ⟨hs62, hs42⟩ := small_ofC hg2
  have hvl := hv.1
  have hvl2 := hv2.1
  go_enter Try.func5, Try.ntmps5
  go_wp2_with fail
  refine (alive_any _).mono ?_
  rintro e w1 ⟨rfl, b1⟩
  go_wp2_with fail
  refine (great_any A n cap cs w1 (hv.below b1) hok hn).mono ?_
  rintro e w2 ⟨rfl, c2⟩
  rw [hg]
  have b2 := below_in' b1 c2
  clear c2 b1
  go_wp2_with fail
  refine (great_any A2 n2 cap2 cs2 w2 (hv2.below b2) hok2 hn2).mono ?_
  rintro e w3 ⟨rfl, c3⟩
  rw [hg2]
  have b3 := below_in' b2 c3
  clear c3 b2
  go_wp2_with fail
  refine (new_any a w3).mono ?_
  rintro e w4 ⟨rfl, hD4, c4, hs4'⟩
  go_wp2_with fail
  refine (rnew_any a w4).mono ?_
  rintro e w5 ⟨rfl, hR5, c5, hs5⟩
  have hT5 := Two.fresh hD4 hs4' hR5 c5
  have b5 := below_in' (below_in' b3 c4) c5
  have hB := b3.size
  rw [hs4']
  have hz5 : w5.heap.size = w3.heap.size + 2 := by omega
  clear hD4 hR5 c4 c5 hs4' b3 hs5
  go_wp2_with fail
  refine (new_any a w5).mono ?_
  rintro e w6 ⟨rfl, hD6, c6, hs6⟩
  go_wp2_with fail
  refine (rnew_any a w6).mono ?_
  rintro e w7 ⟨rfl, hR7, c7, hs7⟩
  have hU7 := Two.fresh hD6 hs6 hR7 c7
  have c67 := below_in' c6 c7
  have b7 := below_in' b5 c67
  have hT7 : Two w7 w3.heap.size w3.heap.size (w3.heap.size + 1) (.slice none 0 0) (dkNew a) :=
    ⟨hT5.dsk.below c67 (by omega) (fun g hg => by simp [Value.ownBlock] at hg), At.below hT5.ref c67 (by omega), hT5.ok, hT5.lb, hT5.lm⟩
  rw [hs6]
  rw [hz5] at hU7 hs6 ⊢
  have hz7 : w3.heap.size + 4 = w7.heap.size := by omega
  clear hD6 hR7 c6 c7 hs6 hs7 hT5 c67 b5 hz5
  have hbo : (dkNew a).boots ≤ 1 := Nat.le_refl _
  generalize w3.heap.size = B at *
  generalize dkNew a = D0 at *
  have H4 := Lib.hid hs4
  have H42 := Lib.hid hs42
  clear hs4 hs42 hok hok2
  have hsep0 : Sep (.slice none 0 0) (.slice none 0 0) := fun g hg => by simp [Value.ownBlock] at hg
  go_wp2_with fail
  go_loopw [33] (fun i wr => ∃ (k : Nat) (v v2 : Value) (D D2 : Dk), k ≤ n ∧ i = .int .i64 k ∧ Two wr B B (B + 1) v D ∧ Two wr (B + 2) (B + 2) (B + 2 + 1) v2 D2 ∧ Sep v v2 ∧ D.boots ≤ 1 + k ∧ D2.boots ≤ 1 + k ∧ Below w.heap.size w wr ∧ B + 4 ≤ wr.heap.size) (fun i _ => n - (intOf i).toNat)
  case atStart => exact ⟨0, _, _, D0, D0, by omega, rfl, hT7, hU7, hsep0, by omega, by omega, b7, by omega⟩
  case round =>
    clear hT7 hU7 hsep0 b7 hz7 hbo
    obtain ⟨k, v, v2, D, D2, hk, rfl, hT, hU, hsep, hbo, hbo2, hb, hz⟩ := hrel
    by_cases hlt : k < n
    · obtain ⟨b, off, rfl, hbl, hcell⟩ := (hv.below hb).2 (by omega)
      obtain ⟨c0, c1, c2, c3⟩ := hcell k hlt
      have hs1 := smallC_at H4.out (k := k) (by omega)
      clear hcell
      generalize cs.getD k default = x at *
      obtain ⟨kk, ss, nn, tt⟩ := x
      simp only at c0 c1 c2 c3 hs1
      have hX := At.fresh wr 31 #[.int .i64 kk, .string ⟨ss.toArray⟩, .int .i64 nn, .int .u8 (tt.toNat : Int)]
      have hTa := hT.alloc (.cells #[.int .i64 kk, .string ⟨ss.toArray⟩, .int .i64 nn, .int .u8 (tt.toNat : Int)] 31)
      have hUa := hU.alloc (.cells #[.int .i64 kk, .string ⟨ss.toArray⟩, .int .i64 nn, .int .u8 (tt.toNat : Int)] 31)
      have hba : Below w.heap.size w (wr.alloc (.cells #[.int .i64 kk, .string ⟨ss.toArray⟩, .int .i64 nn, .int .u8 (tt.toNat : Int)] 31)) := hb.alloc hb.size _
      have hza : B + 4 ≤ (wr.alloc (.cells #[.int .i64 kk, .string ⟨ss.toArray⟩, .int .i64 nn, .int .u8 (tt.toNat : Int)] 31)).heap.size := by simp; omega
      have hrd := read_any hTa.dsk
      obtain ⟨capc, W2, hcv, hL, cB⟩ := lay_bytes (P := Try.prog) (wr.alloc (.cells #[.int .i64 kk, .string ⟨ss.toArray⟩, .int .i64 nn, .int .u8 (tt.toNat : Int)] 31)) 9 44 5 D.read Try.underlying9 Try.underlying44 Try.underlying5 _ rfl
      have hcb := hL.conv (P := Try.prog) 44 9 Try.underlying44 Try.underlying5 Try.underlying9 D.read.length capc rfl
      have hsz : (wr.alloc (.cells #[.int .i64 kk, .string ⟨ss.toArray⟩, .int .i64 nn, .int .u8 (tt.toNat : Int)] 31)).heap.size = wr.heap.size + 1 := by simp
      rw [hsz] at hcv hcb
      have hTb := hTa.below cB
      have hUb := hUa.below cB
      have hbb := below_in' hba cB
      have hzb : B + 4 ≤ W2.heap.size := Nat.le_trans hza cB.size
      have hXb := hX.below cB hX.lt
      have d0 : W2.cell? ⟨wr.heap.size, 0, none⟩ = some (.int .i64 kk) := At.cell hXb 0
      have d1 : W2.cell? ⟨wr.heap.size, 1, none⟩ = some (.string ⟨ss.toArray⟩) := At.cell hXb 1
      have d2 : W2.cell? ⟨wr.heap.size, 2, none⟩ = some (.int .i64 nn) := At.cell hXb 2
      have d3 : W2.cell? ⟨wr.heap.size, 3, none⟩ = some (.int .u8 (tt.toNat : Int)) := At.cell hXb 3
      generalize D.read = R at *
      clear hL cB hT hU hX hXb hTa hUa hba hza
      by_cases hk2 : k < n2
      · have g2 : decide ((k : Int) < (n2 : Int)) = true := by simp; omega
        go_wp2_with fail
        refine hrd.mono ?_
        rintro e w' ⟨rfl, rfl⟩
        go_wp2_with fail
        refine (does_any hTb (by omega) (by omega) ⟨kk, ss, nn, tt⟩ (by show ss.length ≤ 1000000; omega)).mono ?_
        rintro e w8 ⟨rfl, v8, hT8, hM8⟩
        have b8 : Below w.heap.size w w8 := hbb.trans (hM8.below hTb hB (by omega))
        have hz8 : B + 4 ≤ w8.heap.size := Nat.le_trans hzb hM8.size
        have hbo8 := call_boots D ⟨kk, ss, nn, tt⟩
        obtain ⟨hU8, hsep8⟩ := hUb.keep hTb hM8 (by omega) (by omega) hsep.symm
        generalize D.call ⟨kk, ss, nn, tt⟩ = D8 at *
        clear hTb hUb hbb hzb hM8 hrd hcv hcb c0 c1 c2 c3 d0 d1 d2 d3
        obtain ⟨b', off', rfl, hbl', hcell⟩ := (hv2.below b8).2 (by omega)
        obtain ⟨c0, c1, c2, c3⟩ := hcell k hk2
        have hs2 := smallC_at H42.out (k := k) (by omega)
        clear hcell
        generalize cs2.getD k default = x at *
        obtain ⟨k', s', n', t'⟩ := x
        simp only at c0 c1 c2 c3 hs2
        go_wp2_with fail
        refine (does_any hU8 (by omega) (by omega) ⟨k', s', n', t'⟩ (by show s'.length ≤ 1000000; omega)).mono ?_
        rintro e w9 ⟨rfl, v9, hU9, hM9⟩
        have b9 : Below w.heap.size w w9 := b8.trans (hM9.below hU8 (by omega) (by omega))
        have hz9 : B + 4 ≤ w9.heap.size := Nat.le_trans hz8 hM9.size
        have hbo9 := call_boots D2 ⟨k', s', n', t'⟩
        obtain ⟨hT9, hsep9⟩ := hT8.keep hU8 hM9 (by omega) (by omega) hsep8.symm
        generalize D2.call ⟨k', s', n', t'⟩ = D9 at *
        clear hT8 hU8 b8 hM9 c0 c1 c2 c3
        go_wp2_with fail
        refine (same_any hT9).mono ?_
        rintro e w10 ⟨rfl, k10⟩
        have hU10 := hU9.still k10
        go_wp2_with fail
        refine (same_any hU10).mono ?_
        rintro e w11 ⟨rfl, k11⟩
        have kk10 := k10.trans k11
        go_wp2_with fail
        exact ⟨⟨k + 1, v8, v9, D8, D9, by omega, by go_num, hT9.still kk10, hU9.still kk10, hsep9, by omega, by omega, b9.trans (kk10.below _), by rw [kk10.size]; exact hz9⟩, by simp [intOf]; omega⟩
      · have g2 : decide ((k : Int) < (n2 : Int)) = false := by simp; omega
        go_wp2_with fail
        refine hrd.mono ?_
        rintro e w' ⟨rfl, rfl⟩
        go_wp2_with fail
        refine (does_any hTb (by omega) (by omega) ⟨kk, ss, nn, tt⟩ (by show ss.length ≤ 1000000; omega)).mono ?_
        rintro e w8 ⟨rfl, v8, hT8, hM8⟩
        have b8 : Below w.heap.size w w8 := hbb.trans (hM8.below hTb hB (by omega))
        have hz8 : B + 4 ≤ w8.heap.size := Nat.le_trans hzb hM8.size
        have hbo8 := call_boots D ⟨kk, ss, nn, tt⟩
        obtain ⟨hU8, hsep8⟩ := hUb.keep hTb hM8 (by omega) (by omega) hsep.symm
        generalize D.call ⟨kk, ss, nn, tt⟩ = D8 at *
        clear hTb hUb hbb hzb hM8 hrd hcv hcb c0 c1 c2 c3 d0 d1 d2 d3
        have hT9 := hT8
        have hU9 := hU8
        have b9 := b8
        have hz9 := hz8
        have hsep9 := hsep8.symm
        clear hT8 hU8 b8
        go_wp2_with fail
        refine (same_any hT9).mono ?_
        rintro e w10 ⟨rfl, k10⟩
        have hU10 := hU9.still k10
        go_wp2_with fail
        refine (same_any hU10).mono ?_
        rintro e w11 ⟨rfl, k11⟩
        have kk10 := k10.trans k11
        go_wp2_with fail
        exact ⟨⟨k + 1, v8, v2, D8, D2, by omega, by go_num, hT9.still kk10, hU9.still kk10, hsep9, by omega, by omega, b9.trans (kk10.below _), by rw [kk10.size]; exact hz9⟩, by simp [intOf]; omega⟩
    · obtain rfl : n = k := by omega
      go_wp2_with fail
      go_ret
      exact ⟨rfl, hb⟩

set_option maxRecDepth 100000 in
set_option maxHeartbeats 400000 in
theorem diskOwn_main (a : Int) (A : Option Addr) (n cap : Nat) (cs : List Cl) (A2 : Option Addr) (n2 cap2 : Nat) (cs2 : List Cl) (w : World) (_ : I64 a) (hv : Clls w A n cs) (hok : ∀ c ∈ cs, c.Ok) (hn : n ≤ maxLen) (hv2 : Clls w A2 n2 cs2) (hok2 : ∀ c ∈ cs2, c.Ok) (hn2 : n2 ≤ maxLen) :
    Calls Try.prog 5 #[.int .i64 a, .slice A n cap, .slice A2 n2 cap2] w fun e w' => e = .returned (.bool true) ∧ Below w.heap.size w w' := by
  cases hg : greatC cs with
  | false =>
    cases hg2 : greatC cs2 with
    | false => exact diskOwn_live a A n cap cs A2 n2 cap2 cs2 w hv hok hn hv2 hok2 hn2 hg hg2
    | true =>
      go_enter Try.func5, Try.ntmps5
      go_wp2_with fail
      refine (alive_any _).mono ?_
      rintro e w1 ⟨rfl, b1⟩
      go_wp2_with fail
      refine (great_any A n cap cs w1 (hv.below b1) hok hn).mono ?_
      rintro e w2 ⟨rfl, c2⟩
      rw [hg]
      have b2 := below_in' b1 c2
      go_wp2_with fail
      refine (great_any A2 n2 cap2 cs2 w2 (hv2.below b2) hok2 hn2).mono ?_
      rintro e w3 ⟨rfl, c3⟩
      rw [hg2]
      go_wp2_with fail
      go_ret
      exact ⟨rfl, below_in' b2 c3⟩
  | true =>
    go_enter Try.func5, Try.ntmps5
    go_wp2_with fail
    refine (alive_any _).mono ?_
    rintro e w1 ⟨rfl, b1⟩
    go_wp2_with fail
    refine (great_any A n cap cs w1 (hv.below b1) hok hn).mono ?_
    rintro e w2 ⟨rfl, c2⟩
    rw [hg]
    go_wp2_with fail
    go_ret
    exact ⟨rfl, below_in' b1 c2⟩
end Go.Proofs.Ytdgcjhkncokieaa
