/- The law DiskKeeps. -/
import Derived.Test.YtdgcjhkncokieaaDiskRoom
namespace Go.Proofs.Ytdgcjhkncokieaa
open Go.RowKit

theorem xor_back (x t : UInt8) : (x ^^^ t) ^^^ t = x := by rw [UInt8.xor_assoc, UInt8.xor_self, UInt8.xor_zero]
/-- What a power failure leaves. -/
theorem off_facts {E : Dk} (hk : E.Ok) (hup : E.down = false) (keep : Int) (t : UInt8) :
    (E.off keep t).down = true ∧ E.safe ≤ (E.off keep t).xs.length ∧ (E.off keep t).xs.length ≤ E.xs.length ∧ (E.off keep t).xs.take E.safe = E.xs.take E.safe ∧
      ((E.off keep t).xs.length ≠ E.safe → (E.off keep t).xs.take ((E.off keep t).xs.length - 1) = E.xs.take ((E.off keep t).xs.length - 1) ∧ (E.off keep t).xs.getD ((E.off keep t).xs.length - 1) 0 ^^^ t = E.xs.getD ((E.off keep t).xs.length - 1) 0) := by
  have h3 := hk.safe
  have hkl := kept_le E keep
  unfold Dk.off
  rw [if_neg (by rw [hup]; exact Bool.false_ne_true)]
  simp only
  by_cases h0 : E.kept keep = 0
  · rw [if_pos h0]
    have hl : (E.xs.take E.safe).length = E.safe := by rw [List.length_take]; omega
    refine ⟨trivial, by omega, by omega, by rw [List.take_take, Nat.min_self], fun h => absurd hl h⟩
  · rw [if_neg h0]
    have hl := turned_length (xs := E.xs) (n := E.safe + E.kept keep) t (by omega) (by omega)
    have ht := turned_take (xs := E.xs) (safe := E.safe) (K := E.kept keep) t (by omega) (by omega)
    refine ⟨trivial, by omega, by omega, ht, fun _ => ?_⟩
    rw [hl]
    have hxl : E.safe + E.kept keep ≤ E.xs.length := by omega
    have hN : 0 < E.safe + E.kept keep := by omega
    clear hl ht
    generalize E.safe + E.kept keep = N at *
    unfold turned
    have hlt : (E.xs.take (N - 1)).length = N - 1 := by rw [List.length_take]; omega
    refine ⟨?_, ?_⟩
    · rw [List.take_append_of_le_length (by omega), List.take_take, Nat.min_self]
    · rw [List.getD_eq_getElem?_getD, List.getElem?_append_right (by omega), hlt, Nat.sub_self]
      simp only [List.getElem?_cons_zero, Option.getD_some]
      exact xor_back _ _

set_option maxRecDepth 100000 in
set_option maxHeartbeats 800000 in
theorem diskKeeps_live (a : Int) (A : Option Addr) (n cap : Nat) (cs : List Cl) (keep : Int) (turn : UInt8) (w : World) (hv : Clls w A n cs) (hok : ∀ c ∈ cs, c.Ok) (hn : n ≤ maxLen) (hg : greatC cs = false) :
    Calls Try.prog 4 #[.int .i64 a, .slice A n cap, .int .i64 keep, .int .u8 (turn.toNat : Int)] w fun e w' => e = .returned (.bool true) ∧ Below w.heap.size w w' := by
  obtain ⟨hs60, hs4⟩ := small_ofC hg
  have hvl := hv.1
  go_enter Try.func4, Try.ntmps4
  go_wp2_with fail
  refine (alive_any _).mono ?_
  rintro e w1 ⟨rfl, b1⟩
  go_wp2_with fail
  refine (great_any A n cap cs w1 (hv.below b1) hok hn).mono ?_
  rintro e w2 ⟨rfl, c2⟩
  rw [hg]
  have b2 := below_in' b1 c2
  clear c2 b1
  go_wp2_with fail
  refine (new_any a w2).mono ?_
  rintro e w3 ⟨rfl, hD3, c3, hs3⟩
  go_wp2_with fail
  refine (rnew_any a w3).mono ?_
  rintro e w4 ⟨rfl, hR4, c4, hs4'⟩
  have hT4 := Two.fresh hD3 hs3 hR4 c4
  have b4 := below_in' (below_in' b2 c3) c4
  have hB := b2.size
  have hz4 : w2.heap.size ≤ w4.heap.size := by omega
  rw [hs3]
  clear hD3 hR4 c3 c4 hs3 hs4' b2
  generalize w2.heap.size = B at *
  have hbo4 : (dkNew a).boots ≤ 1 := Nat.le_refl _
  generalize dkNew a = D0 at *
  have H4 := Lib.hid hs4
  have HO := Lib.hid hok
  clear hs4 hok
  go_wp2_with fail
  go_loopw [26] (fun i wr => ∃ (k : Nat) (v : Value) (D : Dk), k ≤ n ∧ i = .int .i64 k ∧ Two wr B B (B + 1) v D ∧ D.boots ≤ 1 + k ∧ Below w.heap.size w wr ∧ B ≤ wr.heap.size) (fun i _ => n - (intOf i).toNat)
  case atStart => exact ⟨0, _, D0, by omega, rfl, hT4, by omega, b4, hz4⟩
  case round =>
    clear hT4 b4 hz4 hbo4
    obtain ⟨k, v, D, hk, rfl, hT, hbo, hb, hz⟩ := hrel
    by_cases hlt : k < n
    · obtain ⟨b, off, rfl, hbl, hcell⟩ := (hv.below hb).2 (by omega)
      obtain ⟨c0, c1, c2, c3⟩ := hcell k hlt
      have hs1 := smallC_at H4.out (k := k) (by omega)
      clear hcell
      generalize cs.getD k default = x at *
      obtain ⟨kk, ss, nn, tt⟩ := x
      simp only at c0 c1 c2 c3 hs1
      have hTa := hT.alloc (.cells #[.int .i64 kk, .string ⟨ss.toArray⟩, .int .i64 nn, .int .u8 (tt.toNat : Int)] 31)
      have hba : Below w.heap.size w (wr.alloc (.cells #[.int .i64 kk, .string ⟨ss.toArray⟩, .int .i64 nn, .int .u8 (tt.toNat : Int)] 31)) := hb.alloc hb.size _
      have hza : B ≤ (wr.alloc (.cells #[.int .i64 kk, .string ⟨ss.toArray⟩, .int .i64 nn, .int .u8 (tt.toNat : Int)] 31)).heap.size := by simp; omega
      go_wp2_with fail
      refine (does_any hTa hza (by omega) ⟨kk, ss, nn, tt⟩ (by show ss.length ≤ 1000000; omega)).mono ?_
      rintro e w6 ⟨rfl, v6, hT6, hM6⟩
      have b6 : Below w.heap.size w w6 := hba.trans (hM6.below hTa hB hza)
      have hz6 : B ≤ w6.heap.size := Nat.le_trans hza hM6.size
      have hbo6 := call_boots D ⟨kk, ss, nn, tt⟩
      generalize D.call ⟨kk, ss, nn, tt⟩ = D6 at *
      clear hTa hba hza hM6
      go_wp2_with fail
      exact ⟨⟨k + 1, v6, D6, by omega, by go_num, hT6, by omega, b6, hz6⟩, by simp [intOf]; omega⟩
    · obtain rfl : n = k := by omega
      have hbo' : D.boots < 1000000 := by omega
      have hbo2 : D.boots < 1000 := by omega
      clear hv hs60 hvl hbo H4 HO
      go_wp2_with fail
      refine (on_any hT.dsk hbo').mono ?_
      rintro e w6 ⟨rfl, hD6, hG6⟩
      have hR6 := hT.ref_keep hG6
      have b6 := Below.wgrew hb hG6 hB (fun g hg => Nat.le_trans hB (hT.dsk.lo g hg)) hb.size
      have hz6 : B ≤ w6.heap.size := Nat.le_trans hz hG6.size
      have hk6 := on_ok hT.ok
      have hup := on_up D
      have hbo6 := on_boots (D := D)
      have hne := hT.ne
      have hown6 : v.ownBlock ≠ some (B + 1) := hT.own
      have hron := ron_any hR6 hT.ok hbo'
      clear hG6 hb hz hR6 hT
      generalize D.on = E at *
      go_wp2_with fail
      refine hron.mono ?_
      rintro e w7 ⟨rfl, hR7, hG7⟩
      have hD7 := hD6.ref_keep hne hown6 hG7
      have b7 : Below w.heap.size w w7 := b6.grown hG7 b6.size (fun k hk => by injection hk; omega)
      have hz7 : B ≤ w7.heap.size := Nat.le_trans hz6 hG7.size
      clear hron hD6 b6 hz6 hG7
      have h3 := hk6.safe
      have h4 := hk6.full
      have h5 := hk6.size
      have c0 : w7.cell? ⟨B + 1, 0, none⟩ = some (.string ⟨(E.xs.take E.safe).toArray⟩) := At.cell hR7 0
      have c1 : w7.cell? ⟨B + 1, 1, none⟩ = some (.string ⟨(E.xs.drop E.safe).toArray⟩) := At.cell hR7 1
      have la : (E.xs.take E.safe).length = E.safe := by rw [List.length_take]; omega
      have ll : (E.xs.drop E.safe).length = E.xs.length - E.safe := List.length_drop
      have hall := Lib.hid (List.take_append_drop E.safe E.xs)
      have hoff := fun w' (k : Still w7 w') => off_any (hD7.still k) hk6 keep turn
      have hlo7 := fun g hg => Nat.le_trans hB (hD7.lo g hg)
      obtain ⟨a0, ha⟩ : ∃ a, E.xs.take E.safe = a := ⟨_, rfl⟩
      obtain ⟨l0, hl⟩ : ∃ l, E.xs.drop E.safe = l := ⟨_, rfl⟩
      rw [ha] at c0 la hall
      rw [hl] at c1 ll hall
      have hln : ¬ 9223372036854775807 < a0.length + l0.length := by omega
      have HA := Lib.hid ha
      have HLA := Lib.hid la
      clear ha hl hR7 la ll
      go_wp2_with fail
      go_quiet (fail)
      go_wp2_with fail
      rw [str_app, hall.out]
      refine (hoff _ (Still.drewN w7 nq)).mono ?_
      rintro e w8 ⟨rfl, v8, hD8, hG8⟩
      have b8 := Below.wgrew (b7.trans ((Still.drewN w7 nq).below w.heap.size)) hG8 hB hlo7 (by have := b7.size; exact this)
      obtain ⟨p1, p2, p3, p4, p5⟩ := off_facts hk6 hup keep turn
      have hk8 := off_ok hk6 keep turn
      have hbo8 : (E.off keep turn).boots < 1000000 := by rw [off_boots]; omega
      clear hG8 hoff hall c0 c1 hln b7 hlo7
      generalize E.off keep turn = F at *
      have r8 : F.read = [] := by unfold Dk.read; rw [p1]; rfl
      have hrd8 := read_any hD8
      have hdn8 := down_any hD8
      rw [r8] at hrd8
      rw [p1] at hdn8
      have hlo8 := fun g hg => Nat.le_trans hB (hD8.lo g hg)
      go_wp2_with fail
      refine hrd8.mono ?_
      rintro e w9 ⟨rfl, rfl⟩
      go_wp2_with fail
      refine hdn8.mono ?_
      rintro e w9 ⟨rfl, rfl⟩
      go_wp2_with fail
      refine (on_any hD8 hbo8).mono ?_
      rintro e w9 ⟨rfl, hD9, hG9⟩
      have b9 := Below.wgrew b8 hG9 hB hlo8 b8.size
      have q1 : F.on.xs = F.xs := by unfold Dk.on; split <;> rfl
      have q2 : F.on.safe = F.xs.length := by unfold Dk.on; rw [if_pos p1]
      have q3 : F.on.read = F.xs := by unfold Dk.read; rw [on_up, q1]; rfl
      have hrd9 := read_any hD9
      have hsf9 := safe_any hD9
      rw [q3] at hrd9
      rw [q2] at hsf9
      clear hG9 hlo8 hrd8 hdn8 hD8 b8 q1 q2 q3 r8 hD9 hk8 hbo8 p1
      generalize F.xs = Y at *
      have e1 : ((⟨Y.toArray⟩ : ByteArray).extract 0 E.safe).toList == a0 := by rw [extract_take, p4, HA.out]; simp
      have w1' : decide ((Y.length : Int) < (a0.length : Int)) = false := by have := HLA.out; simp; omega
      have w2' : decide ((E.xs.length : Int) < (Y.length : Int)) = false := by simp; omega
      have w3' : a0.length ≤ Y.length := by have := HLA.out; omega
      rw [← HLA.out] at e1
      have hlY : Y.length ≤ 262144 := by omega
      have hYa := fun (h : Y.length ≠ a0.length) => p5 (by have := HLA.out; omega)
      clear p5 p4 p2
      by_cases hY : Y.length = a0.length
      · have w4 : ((Y.length : Int) == (a0.length : Int)) = true := by simp; omega
        have HY := Lib.hid hY
        clear hY hYa
        go_wp2_with fail
        refine hrd9.mono ?_
        rintro e w10 ⟨rfl, rfl⟩
        go_wp2_with fail
        refine hsf9.mono ?_
        rintro e w10 ⟨rfl, rfl⟩
        go_wp2_with fail
        go_quiet (fail)
        go_wp2_with fail
        go_ret
        exact ⟨rfl, b9.trans ((Still.drewN _ _).below _)⟩
      · obtain ⟨e2, e3⟩ := hYa hY
        have w4 : ((Y.length : Int) == (a0.length : Int)) = false := by simp; omega
        have w5 : 0 < Y.length := by omega
        clear hYa hY
        have hsY : ∀ ww : World, (Instr.slice 9 (.string ⟨Y.toArray⟩) none (some (.int .i64 ((Y.length : Int) - 1))) none).run Try.prog ww = .ok (.string ⟨(Y.take (Y.length - 1)).toArray⟩) ww := fun ww => by
          have h := run_slice_string_h (P := Try.prog) ww 9 ⟨Y.toArray⟩ Try.underlying9 .i64 ((Y.length : Int) - 1) (by omega) (by simp [ByteArray.size]; omega)
          rw [show ((Y.length : Int) - 1).toNat = Y.length - 1 by omega, extract_take] at h
          exact h
        have hsE : ∀ ww : World, (Instr.slice 9 (.string ⟨E.xs.toArray⟩) none (some (.int .i64 ((Y.length : Int) - 1))) none).run Try.prog ww = .ok (.string ⟨(Y.take (Y.length - 1)).toArray⟩) ww := fun ww => by
          have h := run_slice_string_h (P := Try.prog) ww 9 ⟨E.xs.toArray⟩ Try.underlying9 .i64 ((Y.length : Int) - 1) (by omega) (by simp [ByteArray.size]; omega)
          rw [show ((Y.length : Int) - 1).toNat = Y.length - 1 by omega, extract_take, ← e2] at h
          exact h
        generalize Y.take (Y.length - 1) = z at hsY hsE
        have hwk : IntKind.i64.wrap ((Y.length : Int) - 1) = (Y.length : Int) - 1 := by rw [IntKind.wrap_i64]; omega
        have i1 := fun (ww : World) => run_index_list (P := Try.prog) 9 Y ((Y.length : Int) - 1) (Y.length - 1) _ Try.underlying9 (by omega) (by omega) rfl ww
        have i2 := fun (ww : World) => run_index_list (P := Try.prog) 9 E.xs ((Y.length : Int) - 1) (Y.length - 1) _ Try.underlying9 (by omega) (by omega) rfl ww
        rw [← e3] at i2
        clear e2 e3
        generalize Y.getD (Y.length - 1) 0 = y at *
        have x1 := xor_u8 y turn
        have x2 : ((y ^^^ turn).toNat : Nat) = y.toNat ^^^ turn.toNat := UInt8.toNat_xor ..
        go_wp2_with fail
        refine hrd9.mono ?_
        rintro e w10 ⟨rfl, rfl⟩
        go_wp2_with fail
        refine hsf9.mono ?_
        rintro e w10 ⟨rfl, rfl⟩
        go_wp2_with fail
        go_quiet (fail)
        go_wp2_with fail
        go_ret
        exact ⟨rfl, b9.trans ((Still.drewN _ _).below _)⟩

set_option maxRecDepth 100000 in
set_option maxHeartbeats 400000 in
theorem diskKeeps_main (a : Int) (A : Option Addr) (n cap : Nat) (cs : List Cl) (keep : Int) (turn : UInt8) (w : World) (_ : I64 a) (hv : Clls w A n cs) (hok : ∀ c ∈ cs, c.Ok) (hn : n ≤ maxLen) (_ : I64 keep) :
    Calls Try.prog 4 #[.int .i64 a, .slice A n cap, .int .i64 keep, .int .u8 (turn.toNat : Int)] w fun e w' => e = .returned (.bool true) ∧ Below w.heap.size w w' := by
  cases hg : greatC cs with
  | false => exact diskKeeps_live a A n cap cs keep turn w hv hok hn hg
  | true =>
    go_enter Try.func4, Try.ntmps4
    go_wp2_with fail
    refine (alive_any _).mono ?_
    rintro e w1 ⟨rfl, b1⟩
    go_wp2_with fail
    refine (great_any A n cap cs w1 (hv.below b1) hok hn).mono ?_
    rintro e w2 ⟨rfl, c2⟩
    rw [hg]
    go_wp2_with fail
    go_ret
    exact ⟨rfl, below_in' b1 c2⟩
end Go.Proofs.Ytdgcjhkncokieaa
