/- The walk of Sorted. -/
import Derived.Test.YtnhalfdddcjicaaGreatQJas
namespace Go.Proofs.YtnhalfdddcjicaaGreat
open Go.RowKit

section
variable {P : Program} {ops : Array Oper} {Q : Exit → Act → World → Prop} {md : Region.Mode} {S : World → Prop}
/-- An operation that its guard passes over. -/
theorem skip_at {i d : Nat} {oi : Oper} {fuel : Nat} {listed : Array Bool} {ts : Array Value} {ds : List Deferred} {w : World} (hi : (ops.toList.drop i).head? = some oi) (hd : oi.dst = some d)
    (hs : Region.noSelect ops = true) (hf : Region.free md ops listed i = true) (hr : (Region.ready md ops listed).contains i = true)
    (hQ : ∀ c a w, Q (.panic c) (a.put oi.dst undef) w → Q (.panic c) a w) (hw : Region.wanted oi (yielded ops ts) = false) (hS : S w)
    (h : wpAnyH P md ops Q S fuel (listed.setIfInBounds i true) { tmps := ts.setIfInBounds d undef, defers := ds } w) : wpAnyH P md ops Q S (fuel + 1) listed { tmps := ts, defers := ds } w :=
  wpAnyH_take (op_at hi) hs hf hr hQ (.inr ⟨hw, rfl⟩) hS (by rw [hd]; exact h)
theorem skip_only {i : Nat} {o : Oper} {fuel : Nat} {listed : Array Bool} {a : Act} {w : World} (hi : (ops.toList.drop i).head? = some o) (hr : Region.ready md ops listed = [i]) (hw : Region.wanted o (yielded ops a.tmps) = false) (hS : S w)
    (h : wpAnyH P md ops Q S fuel (listed.setIfInBounds i true) (a.put o.dst undef) w) : wpAnyH P md ops Q S (fuel + 1) listed a w :=
  wpAnyH_ready hr (by simp) (AllReadyH.cons (op_at hi) (fun K hK => by rw [hw]; exact hK.out _ _ hS (fun _ => h)) AllReadyH.nil)
end

set_option maxRecDepth 100000 in
set_option maxHeartbeats 1600000 in
theorem gsorted_any (A : Option Addr) (n cap : Nat) (gs : List Gr) (w : World) (hr : RowG w A n gs) (hn : n ≤ maxLen) :
    Calls Tryz.prog 28 #[.slice A n cap] w fun e w' => e = .returned (.bool (decide (SortedG gs))) ∧ Below w.heap.size w w' := by
  unfold maxLen at hn
  have hgl := hr.1
  by_cases h64 : 64 < n
  · rw [decide_eq_false (show ¬ SortedG gs from fun h => by have := h.1; omega)]
    go_enter Tryz.func28, Tryz.ntmps28
    go_wp2_with fail
    go_ret
    exact ⟨rfl, Below.refl _ _⟩
  · obtain ⟨R, hR⟩ : ∃ R, decide (SortedG gs) = R := ⟨_, rfl⟩
    rw [hR]
    have HR := Lib.hid hR
    clear hR
    go_enter Tryz.func28, Tryz.ntmps28
    go_wp2_with fail
    go_loopw [10] (fun iv wr => ∃ (k : Nat), k ≤ n ∧ iv = .int .i64 k ∧ Hid (∀ j, j < k → goodG (atG gs j) = true) ∧ Hid (∀ j, j < k → 0 < j → ltG (atG gs (j - 1)) (atG gs j) = true) ∧ Below w.heap.size w wr) (fun iv _ => n - (intOf iv).toNat)
    case atStart => exact ⟨0, by omega, rfl, show ∀ _, _ from fun j h => by omega, show ∀ _, _ from fun j h => by omega, Below.refl _ _⟩
    case round =>
      obtain ⟨k, hk, rfl, H1, H2, hbr⟩ := hrel
      by_cases hlt : k < n
      · obtain ⟨b, off, rfl, hbl, hcell⟩ := hr.2.2 (by omega)
        obtain ⟨c0, c1, c2⟩ := (hcell k hlt).keep fun i => hbr.cell (p := ⟨b, i, none⟩) hbl
        have hok := hr.2.1 _ (getD_in2 (l := gs) (k := k) (by omega))
        have hgood := fun w' => ggood_any (atG gs k) w' hok.table
        have K1 : Hid (goodG (atG gs k) = true → Hid (∀ j, j < k + 1 → goodG (atG gs j) = true)) := by
          show _ → _
          intro h
          show ∀ _, _
          intro j hj
          by_cases e : j = k
          · rw [e]; exact h
          · exact H1.out j (by omega)
        have K2 : Hid ((0 < k → ltG (atG gs (k - 1)) (atG gs k) = true) → Hid (∀ j, j < k + 1 → 0 < j → ltG (atG gs (j - 1)) (atG gs j) = true)) := by
          show _ → _
          intro h
          show ∀ _, _
          intro j hj h0
          by_cases e : j = k
          · rw [e]; exact h (by omega)
          · exact H2.out j (by omega) h0
        have B1 := Lib.hid (sorted_bad (gs := gs) (k := k) (by omega))
        have B2 := Lib.hid (gsorted_next (gs := gs) (k := k) (by omega))
        cases hg : goodG (atG gs k) with
        | false =>
          have HB := B1.out hg
          rw [hg] at hgood
          unfold atG at hgood
          clear hcell hok K1 K2 B1 B2 H1 H2 hg
          generalize gs.getD k default = g at *
          obtain ⟨ro, tb, bi⟩ := g
          unfold Gr.val at hgood
          simp only at c0 c1 c2 hgood
          have HF : Hid (R = false) := by show _ = _; rw [← HR.out, decide_eq_false HB]
          clear HB
          have hA0 := At.fresh wr 50 #[.int .i64 ro, .string ⟨tb.toArray⟩, .int .i64 bi]
          have hb0 := below_box wr (.cells #[.int .i64 ro, .string ⟨tb.toArray⟩, .int .i64 bi] 50)
          have hcD : Below (wr.alloc (.cells #[.int .i64 ro, .string ⟨tb.toArray⟩, .int .i64 bi] 50)).heap.size (wr.alloc (.cells #[.int .i64 ro, .string ⟨tb.toArray⟩, .int .i64 bi] 50)) (wr.alloc (.cells #[.int .i64 ro, .string ⟨tb.toArray⟩, .int .i64 bi] 50)).drew := (Below.refl _ _).drew
          obtain ⟨hAD, S0⟩ := heldG3 hA0 hcD
          have hbr0 := below_in hbr hb0
          clear hA0 hb0 hbr
          go_wp2_with fail
          generalize (wr.alloc (.cells #[.int .i64 ro, .string ⟨tb.toArray⟩, .int .i64 bi] 50)) = wb at *
          refine wp_region_held_drew (S := fun w' => w'.cell? ⟨wr.heap.size, 0, none⟩ = some (.int .i64 ro) ∧ w'.cell? ⟨wr.heap.size, 1, none⟩ = some (.string ⟨tb.toArray⟩) ∧ w'.cell? ⟨wr.heap.size, 2, none⟩ = some (.int .i64 bi)) (by kernel_rfl) (S0) (fun hS => ?_)
          refine take_at (i := 0) (v := ?_) rfl rfl (by kernel_rfl) (by kernel_rfl) (by kernel_rfl) (fun _ _ _ h => h) (by rfl) hS ?_ ?_
          rotate_left
          · intro w' hw
            obtain ⟨s0, s1, s2⟩ := hw
            go_simp
            try with_reducible rfl
          try simp only [List.setIfInBounds_toArray, List.set_cons_zero, List.set_cons_succ]
          refine only_at (i := 1) rfl (by kernel_rfl) (by rfl) (fun K hK => ?_)
          go_simp
          refine (hgood wb.drew).mono ?_
          rintro e w3 ⟨rfl, b3⟩
          clear hS
          obtain ⟨hA3, S1⟩ := heldG3 hAD b3
          have hc3 := below_in hcD b3
          go_simp
          refine hK.out _ _ (S1) (fun hS => ?_)
          clear hK K
          try simp only [Act.put, List.setIfInBounds_toArray, List.set_cons_zero, List.set_cons_succ]
          refine take_at (i := 2) (v := ?_) rfl rfl (by kernel_rfl) (by kernel_rfl) (by kernel_rfl) (fun _ _ _ h => h) (by rfl) hS ?_ ?_
          rotate_left
          · intro w' hw
            obtain ⟨s0, s1, s2⟩ := hw
            go_simp
            try with_reducible rfl
          try simp only [List.setIfInBounds_toArray, List.set_cons_zero, List.set_cons_succ]
          refine take_at (i := 3) (v := ?_) rfl rfl (by kernel_rfl) (by kernel_rfl) (by kernel_rfl) (fun _ _ _ h => h) (by rfl) hS ?_ ?_
          rotate_left
          · intro w' hw
            obtain ⟨s0, s1, s2⟩ := hw
            go_simp
            try with_reducible rfl
          try simp only [List.setIfInBounds_toArray, List.set_cons_zero, List.set_cons_succ]
          refine skip_at (i := 4) rfl rfl (by kernel_rfl) (by kernel_rfl) (by kernel_rfl) (fun _ _ _ h => h) (by rfl) hS ?_
          try simp only [List.setIfInBounds_toArray, List.set_cons_zero, List.set_cons_succ]
          refine skip_at (i := 5) rfl rfl (by kernel_rfl) (by kernel_rfl) (by kernel_rfl) (fun _ _ _ h => h) (by rfl) hS ?_
          try simp only [List.setIfInBounds_toArray, List.set_cons_zero, List.set_cons_succ]
          refine skip_at (i := 6) rfl rfl (by kernel_rfl) (by kernel_rfl) (by kernel_rfl) (fun _ _ _ h => h) (by rfl) hS ?_
          try simp only [List.setIfInBounds_toArray, List.set_cons_zero, List.set_cons_succ]
          refine skip_at (i := 7) rfl rfl (by kernel_rfl) (by kernel_rfl) (by kernel_rfl) (fun _ _ _ h => h) (by rfl) hS ?_
          try simp only [List.setIfInBounds_toArray, List.set_cons_zero, List.set_cons_succ]
          refine skip_at (i := 8) rfl rfl (by kernel_rfl) (by kernel_rfl) (by kernel_rfl) (fun _ _ _ h => h) (by rfl) hS ?_
          try simp only [List.setIfInBounds_toArray, List.set_cons_zero, List.set_cons_succ]
          refine skip_at (i := 9) rfl rfl (by kernel_rfl) (by kernel_rfl) (by kernel_rfl) (fun _ _ _ h => h) (by rfl) hS ?_
          try simp only [List.setIfInBounds_toArray, List.set_cons_zero, List.set_cons_succ]
          refine skip_at (i := 10) rfl rfl (by kernel_rfl) (by kernel_rfl) (by kernel_rfl) (fun _ _ _ h => h) (by rfl) hS ?_
          try simp only [List.setIfInBounds_toArray, List.set_cons_zero, List.set_cons_succ]
          refine skip_at (i := 11) rfl rfl (by kernel_rfl) (by kernel_rfl) (by kernel_rfl) (fun _ _ _ h => h) (by rfl) hS ?_
          try simp only [List.setIfInBounds_toArray, List.set_cons_zero, List.set_cons_succ]
          refine skip_at (i := 12) rfl rfl (by kernel_rfl) (by kernel_rfl) (by kernel_rfl) (fun _ _ _ h => h) (by rfl) hS ?_
          try simp only [List.setIfInBounds_toArray, List.set_cons_zero, List.set_cons_succ]
          refine skip_only (i := 13) rfl (by kernel_rfl) (by rfl) hS ?_
          try simp only [Act.put, List.setIfInBounds_toArray, List.set_cons_zero, List.set_cons_succ]
          refine skip_at (i := 14) rfl rfl (by kernel_rfl) (by kernel_rfl) (by kernel_rfl) (fun _ _ _ h => h) (by rfl) hS ?_
          try simp only [List.setIfInBounds_toArray, List.set_cons_zero, List.set_cons_succ]
          refine skip_at (i := 15) rfl rfl (by kernel_rfl) (by kernel_rfl) (by kernel_rfl) (fun _ _ _ h => h) (by rfl) hS ?_
          try simp only [List.setIfInBounds_toArray, List.set_cons_zero, List.set_cons_succ]
          refine take_at (i := 16) (v := ?_) rfl rfl (by kernel_rfl) (by kernel_rfl) (by kernel_rfl) (fun _ _ _ h => h) (by rfl) hS ?_ ?_
          rotate_left
          · intro w' hw
            obtain ⟨s0, s1, s2⟩ := hw
            go_simp
            try with_reducible rfl
          try simp only [List.setIfInBounds_toArray, List.set_cons_zero, List.set_cons_succ]
          refine wpAnyH_done (by kernel_rfl) ?_ _
          clear hS
          go_wp2_with fail
          go_ret
          exact ⟨by rw [HF.out]; rfl, below_in hbr0 hc3⟩
        | true =>
          by_cases h0 : k = 0
          · subst h0
            have HK1 := K1.out hg
            have HK2 := K2.out (fun h => by omega)
            rw [hg] at hgood
            unfold atG at hgood
            clear hcell hok K1 K2 B1 B2 H1 H2 hg
            rw [Nat.zero_mul, Nat.add_zero] at c0 c1 c2
            generalize gs.getD 0 default = g at hgood c0 c1 c2
            obtain ⟨ro, tb, bi⟩ := g
            unfold Gr.val at hgood
            simp only at c0 c1 c2 hgood
            have hA0 := At.fresh wr 50 #[.int .i64 ro, .string ⟨tb.toArray⟩, .int .i64 bi]
            have hb0 := below_box wr (.cells #[.int .i64 ro, .string ⟨tb.toArray⟩, .int .i64 bi] 50)
            have hcD : Below (wr.alloc (.cells #[.int .i64 ro, .string ⟨tb.toArray⟩, .int .i64 bi] 50)).heap.size (wr.alloc (.cells #[.int .i64 ro, .string ⟨tb.toArray⟩, .int .i64 bi] 50)) (wr.alloc (.cells #[.int .i64 ro, .string ⟨tb.toArray⟩, .int .i64 bi] 50)).drew := (Below.refl _ _).drew
            obtain ⟨hAD, S0⟩ := heldG3 hA0 hcD
            have hbr0 := below_in hbr hb0
            clear hA0 hb0 hbr
            go_wp2_with fail
            generalize (wr.alloc (.cells #[.int .i64 ro, .string ⟨tb.toArray⟩, .int .i64 bi] 50)) = wb at *
            refine wp_region_held_drew (S := fun w' => w'.cell? ⟨wr.heap.size, 0, none⟩ = some (.int .i64 ro) ∧ w'.cell? ⟨wr.heap.size, 1, none⟩ = some (.string ⟨tb.toArray⟩) ∧ w'.cell? ⟨wr.heap.size, 2, none⟩ = some (.int .i64 bi)) (by kernel_rfl) (S0) (fun hS => ?_)
            refine take_at (i := 0) (v := ?_) rfl rfl (by kernel_rfl) (by kernel_rfl) (by kernel_rfl) (fun _ _ _ h => h) (by rfl) hS ?_ ?_
            rotate_left
            · intro w' hw
              obtain ⟨s0, s1, s2⟩ := hw
              go_simp
              try with_reducible rfl
            try simp only [List.setIfInBounds_toArray, List.set_cons_zero, List.set_cons_succ]
            refine only_at (i := 1) rfl (by kernel_rfl) (by rfl) (fun K hK => ?_)
            go_simp
            refine (hgood wb.drew).mono ?_
            rintro e w3 ⟨rfl, b3⟩
            clear hS
            obtain ⟨hA3, S1⟩ := heldG3 hAD b3
            have hc3 := below_in hcD b3
            go_simp
            refine hK.out _ _ (S1) (fun hS => ?_)
            clear hK K
            try simp only [Act.put, List.setIfInBounds_toArray, List.set_cons_zero, List.set_cons_succ]
            refine take_at (i := 2) (v := ?_) rfl rfl (by kernel_rfl) (by kernel_rfl) (by kernel_rfl) (fun _ _ _ h => h) (by rfl) hS ?_ ?_
            rotate_left
            · intro w' hw
              obtain ⟨s0, s1, s2⟩ := hw
              go_simp
              try with_reducible rfl
            try simp only [List.setIfInBounds_toArray, List.set_cons_zero, List.set_cons_succ]
            refine take_at (i := 3) (v := ?_) rfl rfl (by kernel_rfl) (by kernel_rfl) (by kernel_rfl) (fun _ _ _ h => h) (by rfl) hS ?_ ?_
            rotate_left
            · intro w' hw
              obtain ⟨s0, s1, s2⟩ := hw
              go_simp
              try with_reducible rfl
            try simp only [List.setIfInBounds_toArray, List.set_cons_zero, List.set_cons_succ]
            refine take_at (i := 4) (v := ?_) rfl rfl (by kernel_rfl) (by kernel_rfl) (by kernel_rfl) (fun _ _ _ h => h) (by rfl) hS ?_ ?_
            rotate_left
            · intro w' hw
              obtain ⟨s0, s1, s2⟩ := hw
              go_simp
              try with_reducible rfl
            try simp only [List.setIfInBounds_toArray, List.set_cons_zero, List.set_cons_succ]
            refine take_at (i := 5) (v := ?_) rfl rfl (by kernel_rfl) (by kernel_rfl) (by kernel_rfl) (fun _ _ _ h => h) (by rfl) hS ?_ ?_
            rotate_left
            · intro w' hw
              obtain ⟨s0, s1, s2⟩ := hw
              go_simp
              try with_reducible rfl
            try simp only [List.setIfInBounds_toArray, List.set_cons_zero, List.set_cons_succ]
            refine take_at (i := 6) (v := ?_) rfl rfl (by kernel_rfl) (by kernel_rfl) (by kernel_rfl) (fun _ _ _ h => h) (by rfl) hS ?_ ?_
            rotate_left
            · intro w' hw
              obtain ⟨s0, s1, s2⟩ := hw
              go_simp
              try with_reducible rfl
            try simp only [List.setIfInBounds_toArray, List.set_cons_zero, List.set_cons_succ]
            refine skip_at (i := 7) rfl rfl (by kernel_rfl) (by kernel_rfl) (by kernel_rfl) (fun _ _ _ h => h) (by rfl) hS ?_
            try simp only [List.setIfInBounds_toArray, List.set_cons_zero, List.set_cons_succ]
            refine skip_at (i := 8) rfl rfl (by kernel_rfl) (by kernel_rfl) (by kernel_rfl) (fun _ _ _ h => h) (by rfl) hS ?_
            try simp only [List.setIfInBounds_toArray, List.set_cons_zero, List.set_cons_succ]
            refine skip_at (i := 9) rfl rfl (by kernel_rfl) (by kernel_rfl) (by kernel_rfl) (fun _ _ _ h => h) (by rfl) hS ?_
            try simp only [List.setIfInBounds_toArray, List.set_cons_zero, List.set_cons_succ]
            refine skip_at (i := 10) rfl rfl (by kernel_rfl) (by kernel_rfl) (by kernel_rfl) (fun _ _ _ h => h) (by rfl) hS ?_
            try simp only [List.setIfInBounds_toArray, List.set_cons_zero, List.set_cons_succ]
            refine skip_at (i := 11) rfl rfl (by kernel_rfl) (by kernel_rfl) (by kernel_rfl) (fun _ _ _ h => h) (by rfl) hS ?_
            try simp only [List.setIfInBounds_toArray, List.set_cons_zero, List.set_cons_succ]
            refine skip_at (i := 12) rfl rfl (by kernel_rfl) (by kernel_rfl) (by kernel_rfl) (fun _ _ _ h => h) (by rfl) hS ?_
            try simp only [List.setIfInBounds_toArray, List.set_cons_zero, List.set_cons_succ]
            refine skip_only (i := 13) rfl (by kernel_rfl) (by rfl) hS ?_
            try simp only [Act.put, List.setIfInBounds_toArray, List.set_cons_zero, List.set_cons_succ]
            refine skip_at (i := 14) rfl rfl (by kernel_rfl) (by kernel_rfl) (by kernel_rfl) (fun _ _ _ h => h) (by rfl) hS ?_
            try simp only [List.setIfInBounds_toArray, List.set_cons_zero, List.set_cons_succ]
            refine take_at (i := 15) (v := ?_) rfl rfl (by kernel_rfl) (by kernel_rfl) (by kernel_rfl) (fun _ _ _ h => h) (by rfl) hS ?_ ?_
            rotate_left
            · intro w' hw
              obtain ⟨s0, s1, s2⟩ := hw
              go_simp
              try with_reducible rfl
            try simp only [List.setIfInBounds_toArray, List.set_cons_zero, List.set_cons_succ]
            refine take_at (i := 16) (v := ?_) rfl rfl (by kernel_rfl) (by kernel_rfl) (by kernel_rfl) (fun _ _ _ h => h) (by rfl) hS ?_ ?_
            rotate_left
            · intro w' hw
              obtain ⟨s0, s1, s2⟩ := hw
              go_simp
              try with_reducible rfl
            try simp only [List.setIfInBounds_toArray, List.set_cons_zero, List.set_cons_succ]
            refine wpAnyH_done (by kernel_rfl) ?_ _
            clear hS
            go_wp2_with fail
            exact ⟨⟨1, by omega, by go_num, HK1, HK2, below_in hbr0 hc3⟩, by simp [intOf]; omega⟩
          · obtain ⟨q, hq⟩ : ∃ q, k - 1 = q := ⟨_, rfl⟩
            rw [hq] at B2 K2
            obtain ⟨p0, p1, p2⟩ := (hcell q (by omega)).keep fun i => hbr.cell (p := ⟨b, i, none⟩) hbl
            have HK1 := K1.out hg
            have hcmp := fun w' => gcompare_any (atG gs q) (atG gs k) w'
            have hneg := cmpRT_neg (r := (atG gs q).role) (t := (atG gs q).table) (r' := (atG gs k).role) (t' := (atG gs k).table)
            have HN : Hid (cmpRT (atG gs q).role (atG gs q).table (atG gs k).role (atG gs k).table < 0 ↔ ltG (atG gs q) (atG gs k) = true) := hneg
            rw [hg] at hgood
            clear hcell hok K1 B1 H1 H2 hg hneg
            generalize cmpRT (atG gs q).role (atG gs q).table (atG gs k).role (atG gs k).table = C at *
            unfold atG at hgood hcmp
            generalize gs.getD k default = g at hgood hcmp c0 c1 c2
            generalize gs.getD q default = g' at hgood hcmp p0 p1 p2
            obtain ⟨ro, tb, bi⟩ := g
            obtain ⟨ro', tb', bi'⟩ := g'
            unfold Gr.val at hcmp
            simp only at p0 p1 p2 hcmp
            unfold Gr.val at hgood
            simp only at c0 c1 c2 hgood
            have hA0 := At.fresh wr 50 #[.int .i64 ro, .string ⟨tb.toArray⟩, .int .i64 bi]
            have hb0 := below_box wr (.cells #[.int .i64 ro, .string ⟨tb.toArray⟩, .int .i64 bi] 50)
            have hcD : Below (wr.alloc (.cells #[.int .i64 ro, .string ⟨tb.toArray⟩, .int .i64 bi] 50)).heap.size (wr.alloc (.cells #[.int .i64 ro, .string ⟨tb.toArray⟩, .int .i64 bi] 50)) (wr.alloc (.cells #[.int .i64 ro, .string ⟨tb.toArray⟩, .int .i64 bi] 50)).drew := (Below.refl _ _).drew
            obtain ⟨hAD, S0⟩ := heldG3 hA0 hcD
            have hbr0 := below_in hbr hb0
            have hki : ((k : Int) - 1) = (q : Int) := by omega
            have hkw : IntKind.i64.wrap ((k : Int) - 1) = (q : Int) := by rw [hki, IntKind.wrap_i64] <;> omega
            clear hki
            have hqw : IntKind.i64.wrap (q : Int) = (q : Int) := by rw [IntKind.wrap_i64] <;> omega
            have hqn : q < n := by omega
            have hkp : (0 : Int) < (k : Int) := by omega
            have hkn : 0 < k := by omega
            have hk1 : (q : Int) < (n : Int) := by omega
            have hk2 : (0 : Int) ≤ (q : Int) := by omega
            have hblr : b < wr.heap.size := by have := hbr.size; omega
            clear hq
            have HP : ∀ w', Below wr.heap.size wr w' → w'.cell? ⟨b, off + q * 3, none⟩ = some (.int .i64 ro') ∧ w'.cell? ⟨b, off + q * 3 + 1, none⟩ = some (.string ⟨tb'.toArray⟩) ∧ w'.cell? ⟨b, off + q * 3 + 2, none⟩ = some (.int .i64 bi') := fun w' hb => ⟨(hb.cell (p := ⟨b, _, none⟩) hblr).trans p0, (hb.cell (p := ⟨b, _, none⟩) hblr).trans p1, (hb.cell (p := ⟨b, _, none⟩) hblr).trans p2⟩
            have T0 := HP _ (below_in hb0 hcD)
            clear hA0 hbr
            go_wp2_with fail
            generalize (wr.alloc (.cells #[.int .i64 ro, .string ⟨tb.toArray⟩, .int .i64 bi] 50)) = wb at *
            by_cases hC : C < 0
            · have hCd : decide (0 ≤ C) = false := decide_eq_false (by omega)
              have HK2 := K2.out (fun _ => HN.out.1 hC)
              clear K2 HN B2
              refine wp_region_held_drew (S := fun w' => (w'.cell? ⟨wr.heap.size, 0, none⟩ = some (.int .i64 ro) ∧ w'.cell? ⟨wr.heap.size, 1, none⟩ = some (.string ⟨tb.toArray⟩) ∧ w'.cell? ⟨wr.heap.size, 2, none⟩ = some (.int .i64 bi)) ∧ w'.cell? ⟨b, off + q * 3, none⟩ = some (.int .i64 ro') ∧ w'.cell? ⟨b, off + q * 3 + 1, none⟩ = some (.string ⟨tb'.toArray⟩) ∧ w'.cell? ⟨b, off + q * 3 + 2, none⟩ = some (.int .i64 bi')) (by kernel_rfl) (⟨S0, T0⟩) (fun hS => ?_)
              refine take_at (i := 0) (v := ?_) rfl rfl (by kernel_rfl) (by kernel_rfl) (by kernel_rfl) (fun _ _ _ h => h) (by rfl) hS ?_ ?_
              rotate_left
              · intro w' hw
                obtain ⟨⟨s0, s1, s2⟩, p0, p1, p2⟩ := hw
                go_simp
                try with_reducible rfl
              try simp only [List.setIfInBounds_toArray, List.set_cons_zero, List.set_cons_succ]
              refine only_at (i := 1) rfl (by kernel_rfl) (by rfl) (fun K hK => ?_)
              go_simp
              refine (hgood wb.drew).mono ?_
              rintro e w3 ⟨rfl, b3⟩
              clear hS
              obtain ⟨hA3, S1⟩ := heldG3 hAD b3
              have hc3 := below_in hcD b3
              have T1 := HP _ (below_in hb0 hc3)
              go_simp
              refine hK.out _ _ (⟨S1, T1⟩) (fun hS => ?_)
              clear hK K
              try simp only [Act.put, List.setIfInBounds_toArray, List.set_cons_zero, List.set_cons_succ]
              refine take_at (i := 2) (v := ?_) rfl rfl (by kernel_rfl) (by kernel_rfl) (by kernel_rfl) (fun _ _ _ h => h) (by rfl) hS ?_ ?_
              rotate_left
              · intro w' hw
                obtain ⟨⟨s0, s1, s2⟩, p0, p1, p2⟩ := hw
                go_simp
                try with_reducible rfl
              try simp only [List.setIfInBounds_toArray, List.set_cons_zero, List.set_cons_succ]
              refine take_at (i := 3) (v := ?_) rfl rfl (by kernel_rfl) (by kernel_rfl) (by kernel_rfl) (fun _ _ _ h => h) (by rfl) hS ?_ ?_
              rotate_left
              · intro w' hw
                obtain ⟨⟨s0, s1, s2⟩, p0, p1, p2⟩ := hw
                go_simp
                try with_reducible rfl
              try simp only [List.setIfInBounds_toArray, List.set_cons_zero, List.set_cons_succ]
              refine take_at (i := 4) (v := ?_) rfl rfl (by kernel_rfl) (by kernel_rfl) (by kernel_rfl) (fun _ _ _ h => h) (by rfl) hS ?_ ?_
              rotate_left
              · intro w' hw
                obtain ⟨⟨s0, s1, s2⟩, p0, p1, p2⟩ := hw
                go_simp
                try with_reducible rfl
              try simp only [List.setIfInBounds_toArray, List.set_cons_zero, List.set_cons_succ]
              refine take_at (i := 5) (v := ?_) rfl rfl (by kernel_rfl) (by kernel_rfl) (by kernel_rfl) (fun _ _ _ h => h) (by rfl) hS ?_ ?_
              rotate_left
              · intro w' hw
                obtain ⟨⟨s0, s1, s2⟩, p0, p1, p2⟩ := hw
                go_simp
                try with_reducible rfl
              try simp only [List.setIfInBounds_toArray, List.set_cons_zero, List.set_cons_succ]
              refine take_at (i := 6) (v := ?_) rfl rfl (by kernel_rfl) (by kernel_rfl) (by kernel_rfl) (fun _ _ _ h => h) (by rfl) hS ?_ ?_
              rotate_left
              · intro w' hw
                obtain ⟨⟨s0, s1, s2⟩, p0, p1, p2⟩ := hw
                go_simp
                try with_reducible rfl
              try simp only [List.setIfInBounds_toArray, List.set_cons_zero, List.set_cons_succ]
              refine take_at (i := 7) (v := ?_) rfl rfl (by kernel_rfl) (by kernel_rfl) (by kernel_rfl) (fun _ _ _ h => h) (by rfl) hS ?_ ?_
              rotate_left
              · intro w' hw
                obtain ⟨⟨s0, s1, s2⟩, p0, p1, p2⟩ := hw
                go_simp
                try with_reducible rfl
              try simp only [List.setIfInBounds_toArray, List.set_cons_zero, List.set_cons_succ]
              refine take_at (i := 8) (v := ?_) rfl rfl (by kernel_rfl) (by kernel_rfl) (by kernel_rfl) (fun _ _ _ h => h) (by rfl) hS ?_ ?_
              rotate_left
              · intro w' hw
                obtain ⟨⟨s0, s1, s2⟩, p0, p1, p2⟩ := hw
                go_simp
                try with_reducible rfl
              try simp only [List.setIfInBounds_toArray, List.set_cons_zero, List.set_cons_succ]
              refine take_at (i := 9) (v := ?_) rfl rfl (by kernel_rfl) (by kernel_rfl) (by kernel_rfl) (fun _ _ _ h => h) (by rfl) hS ?_ ?_
              rotate_left
              · intro w' hw
                obtain ⟨⟨s0, s1, s2⟩, p0, p1, p2⟩ := hw
                go_simp
                try with_reducible rfl
              try simp only [List.setIfInBounds_toArray, List.set_cons_zero, List.set_cons_succ]
              refine take_at (i := 10) (v := ?_) rfl rfl (by kernel_rfl) (by kernel_rfl) (by kernel_rfl) (fun _ _ _ h => h) (by rfl) hS ?_ ?_
              rotate_left
              · intro w' hw
                obtain ⟨⟨s0, s1, s2⟩, p0, p1, p2⟩ := hw
                go_simp
                try with_reducible rfl
              try simp only [List.setIfInBounds_toArray, List.set_cons_zero, List.set_cons_succ]
              refine take_at (i := 11) (v := ?_) rfl rfl (by kernel_rfl) (by kernel_rfl) (by kernel_rfl) (fun _ _ _ h => h) (by rfl) hS ?_ ?_
              rotate_left
              · intro w' hw
                obtain ⟨⟨s0, s1, s2⟩, p0, p1, p2⟩ := hw
                go_simp
                try with_reducible rfl
              try simp only [List.setIfInBounds_toArray, List.set_cons_zero, List.set_cons_succ]
              refine take_at (i := 12) (v := ?_) rfl rfl (by kernel_rfl) (by kernel_rfl) (by kernel_rfl) (fun _ _ _ h => h) (by rfl) hS ?_ ?_
              rotate_left
              · intro w' hw
                obtain ⟨⟨s0, s1, s2⟩, p0, p1, p2⟩ := hw
                go_simp
                try with_reducible rfl
              try simp only [List.setIfInBounds_toArray, List.set_cons_zero, List.set_cons_succ]
              refine only_at (i := 13) rfl (by kernel_rfl) (by rfl) (fun K hK => ?_)
              go_simp
              refine (hcmp w3).mono ?_
              rintro e w4 ⟨rfl, b4⟩
              clear hS
              obtain ⟨hA4, S2⟩ := heldG3 hA3 b4
              have hc4 := below_in hc3 b4
              have T2 := HP _ (below_in hb0 hc4)
              go_simp
              refine hK.out _ _ (⟨S2, T2⟩) (fun hS => ?_)
              clear hK K
              try simp only [Act.put, List.setIfInBounds_toArray, List.set_cons_zero, List.set_cons_succ]
              refine take_at (i := 14) (v := ?_) rfl rfl (by kernel_rfl) (by kernel_rfl) (by kernel_rfl) (fun _ _ _ h => h) (by rfl) hS ?_ ?_
              rotate_left
              · intro w' hw
                obtain ⟨⟨s0, s1, s2⟩, p0, p1, p2⟩ := hw
                go_simp
                try with_reducible rfl
              try simp only [List.setIfInBounds_toArray, List.set_cons_zero, List.set_cons_succ]
              refine take_at (i := 15) (v := ?_) rfl rfl (by kernel_rfl) (by kernel_rfl) (by kernel_rfl) (fun _ _ _ h => h) (by rfl) hS ?_ ?_
              rotate_left
              · intro w' hw
                obtain ⟨⟨s0, s1, s2⟩, p0, p1, p2⟩ := hw
                go_simp
                try with_reducible rfl
              try simp only [List.setIfInBounds_toArray, List.set_cons_zero, List.set_cons_succ]
              refine take_at (i := 16) (v := ?_) rfl rfl (by kernel_rfl) (by kernel_rfl) (by kernel_rfl) (fun _ _ _ h => h) (by rfl) hS ?_ ?_
              rotate_left
              · intro w' hw
                obtain ⟨⟨s0, s1, s2⟩, p0, p1, p2⟩ := hw
                go_simp
                try with_reducible rfl
              try simp only [List.setIfInBounds_toArray, List.set_cons_zero, List.set_cons_succ]
              refine wpAnyH_done (by kernel_rfl) ?_ _
              clear hS
              go_wp2_with fail
              exact ⟨⟨k + 1, by omega, by go_num, HK1, HK2, below_in hbr0 hc4⟩, by simp [intOf]; omega⟩
            · have hCd : decide (0 ≤ C) = true := decide_eq_true (by omega)
              have HF : Hid (R = false) := by show _ = _; rw [← HR.out, decide_eq_false (B2.out (fun h => hC (HN.out.2 h)) (by omega))]
              clear K2 HN B2 HK1
              refine wp_region_held_drew (S := fun w' => (w'.cell? ⟨wr.heap.size, 0, none⟩ = some (.int .i64 ro) ∧ w'.cell? ⟨wr.heap.size, 1, none⟩ = some (.string ⟨tb.toArray⟩) ∧ w'.cell? ⟨wr.heap.size, 2, none⟩ = some (.int .i64 bi)) ∧ w'.cell? ⟨b, off + q * 3, none⟩ = some (.int .i64 ro') ∧ w'.cell? ⟨b, off + q * 3 + 1, none⟩ = some (.string ⟨tb'.toArray⟩) ∧ w'.cell? ⟨b, off + q * 3 + 2, none⟩ = some (.int .i64 bi')) (by kernel_rfl) (⟨S0, T0⟩) (fun hS => ?_)
              refine take_at (i := 0) (v := ?_) rfl rfl (by kernel_rfl) (by kernel_rfl) (by kernel_rfl) (fun _ _ _ h => h) (by rfl) hS ?_ ?_
              rotate_left
              · intro w' hw
                obtain ⟨⟨s0, s1, s2⟩, p0, p1, p2⟩ := hw
                go_simp
                try with_reducible rfl
              try simp only [List.setIfInBounds_toArray, List.set_cons_zero, List.set_cons_succ]
              refine only_at (i := 1) rfl (by kernel_rfl) (by rfl) (fun K hK => ?_)
              go_simp
              refine (hgood wb.drew).mono ?_
              rintro e w3 ⟨rfl, b3⟩
              clear hS
              obtain ⟨hA3, S1⟩ := heldG3 hAD b3
              have hc3 := below_in hcD b3
              have T1 := HP _ (below_in hb0 hc3)
              go_simp
              refine hK.out _ _ (⟨S1, T1⟩) (fun hS => ?_)
              clear hK K
              try simp only [Act.put, List.setIfInBounds_toArray, List.set_cons_zero, List.set_cons_succ]
              refine take_at (i := 2) (v := ?_) rfl rfl (by kernel_rfl) (by kernel_rfl) (by kernel_rfl) (fun _ _ _ h => h) (by rfl) hS ?_ ?_
              rotate_left
              · intro w' hw
                obtain ⟨⟨s0, s1, s2⟩, p0, p1, p2⟩ := hw
                go_simp
                try with_reducible rfl
              try simp only [List.setIfInBounds_toArray, List.set_cons_zero, List.set_cons_succ]
              refine take_at (i := 3) (v := ?_) rfl rfl (by kernel_rfl) (by kernel_rfl) (by kernel_rfl) (fun _ _ _ h => h) (by rfl) hS ?_ ?_
              rotate_left
              · intro w' hw
                obtain ⟨⟨s0, s1, s2⟩, p0, p1, p2⟩ := hw
                go_simp
                try with_reducible rfl
              try simp only [List.setIfInBounds_toArray, List.set_cons_zero, List.set_cons_succ]
              refine take_at (i := 4) (v := ?_) rfl rfl (by kernel_rfl) (by kernel_rfl) (by kernel_rfl) (fun _ _ _ h => h) (by rfl) hS ?_ ?_
              rotate_left
              · intro w' hw
                obtain ⟨⟨s0, s1, s2⟩, p0, p1, p2⟩ := hw
                go_simp
                try with_reducible rfl
              try simp only [List.setIfInBounds_toArray, List.set_cons_zero, List.set_cons_succ]
              refine take_at (i := 5) (v := ?_) rfl rfl (by kernel_rfl) (by kernel_rfl) (by kernel_rfl) (fun _ _ _ h => h) (by rfl) hS ?_ ?_
              rotate_left
              · intro w' hw
                obtain ⟨⟨s0, s1, s2⟩, p0, p1, p2⟩ := hw
                go_simp
                try with_reducible rfl
              try simp only [List.setIfInBounds_toArray, List.set_cons_zero, List.set_cons_succ]
              refine take_at (i := 6) (v := ?_) rfl rfl (by kernel_rfl) (by kernel_rfl) (by kernel_rfl) (fun _ _ _ h => h) (by rfl) hS ?_ ?_
              rotate_left
              · intro w' hw
                obtain ⟨⟨s0, s1, s2⟩, p0, p1, p2⟩ := hw
                go_simp
                try with_reducible rfl
              try simp only [List.setIfInBounds_toArray, List.set_cons_zero, List.set_cons_succ]
              refine take_at (i := 7) (v := ?_) rfl rfl (by kernel_rfl) (by kernel_rfl) (by kernel_rfl) (fun _ _ _ h => h) (by rfl) hS ?_ ?_
              rotate_left
              · intro w' hw
                obtain ⟨⟨s0, s1, s2⟩, p0, p1, p2⟩ := hw
                go_simp
                try with_reducible rfl
              try simp only [List.setIfInBounds_toArray, List.set_cons_zero, List.set_cons_succ]
              refine take_at (i := 8) (v := ?_) rfl rfl (by kernel_rfl) (by kernel_rfl) (by kernel_rfl) (fun _ _ _ h => h) (by rfl) hS ?_ ?_
              rotate_left
              · intro w' hw
                obtain ⟨⟨s0, s1, s2⟩, p0, p1, p2⟩ := hw
                go_simp
                try with_reducible rfl
              try simp only [List.setIfInBounds_toArray, List.set_cons_zero, List.set_cons_succ]
              refine take_at (i := 9) (v := ?_) rfl rfl (by kernel_rfl) (by kernel_rfl) (by kernel_rfl) (fun _ _ _ h => h) (by rfl) hS ?_ ?_
              rotate_left
              · intro w' hw
                obtain ⟨⟨s0, s1, s2⟩, p0, p1, p2⟩ := hw
                go_simp
                try with_reducible rfl
              try simp only [List.setIfInBounds_toArray, List.set_cons_zero, List.set_cons_succ]
              refine take_at (i := 10) (v := ?_) rfl rfl (by kernel_rfl) (by kernel_rfl) (by kernel_rfl) (fun _ _ _ h => h) (by rfl) hS ?_ ?_
              rotate_left
              · intro w' hw
                obtain ⟨⟨s0, s1, s2⟩, p0, p1, p2⟩ := hw
                go_simp
                try with_reducible rfl
              try simp only [List.setIfInBounds_toArray, List.set_cons_zero, List.set_cons_succ]
              refine take_at (i := 11) (v := ?_) rfl rfl (by kernel_rfl) (by kernel_rfl) (by kernel_rfl) (fun _ _ _ h => h) (by rfl) hS ?_ ?_
              rotate_left
              · intro w' hw
                obtain ⟨⟨s0, s1, s2⟩, p0, p1, p2⟩ := hw
                go_simp
                try with_reducible rfl
              try simp only [List.setIfInBounds_toArray, List.set_cons_zero, List.set_cons_succ]
              refine take_at (i := 12) (v := ?_) rfl rfl (by kernel_rfl) (by kernel_rfl) (by kernel_rfl) (fun _ _ _ h => h) (by rfl) hS ?_ ?_
              rotate_left
              · intro w' hw
                obtain ⟨⟨s0, s1, s2⟩, p0, p1, p2⟩ := hw
                go_simp
                try with_reducible rfl
              try simp only [List.setIfInBounds_toArray, List.set_cons_zero, List.set_cons_succ]
              refine only_at (i := 13) rfl (by kernel_rfl) (by rfl) (fun K hK => ?_)
              go_simp
              refine (hcmp w3).mono ?_
              rintro e w4 ⟨rfl, b4⟩
              clear hS
              obtain ⟨hA4, S2⟩ := heldG3 hA3 b4
              have hc4 := below_in hc3 b4
              have T2 := HP _ (below_in hb0 hc4)
              go_simp
              refine hK.out _ _ (⟨S2, T2⟩) (fun hS => ?_)
              clear hK K
              try simp only [Act.put, List.setIfInBounds_toArray, List.set_cons_zero, List.set_cons_succ]
              refine take_at (i := 14) (v := ?_) rfl rfl (by kernel_rfl) (by kernel_rfl) (by kernel_rfl) (fun _ _ _ h => h) (by rfl) hS ?_ ?_
              rotate_left
              · intro w' hw
                obtain ⟨⟨s0, s1, s2⟩, p0, p1, p2⟩ := hw
                go_simp
                try with_reducible rfl
              try simp only [List.setIfInBounds_toArray, List.set_cons_zero, List.set_cons_succ]
              refine take_at (i := 15) (v := ?_) rfl rfl (by kernel_rfl) (by kernel_rfl) (by kernel_rfl) (fun _ _ _ h => h) (by rfl) hS ?_ ?_
              rotate_left
              · intro w' hw
                obtain ⟨⟨s0, s1, s2⟩, p0, p1, p2⟩ := hw
                go_simp
                try with_reducible rfl
              try simp only [List.setIfInBounds_toArray, List.set_cons_zero, List.set_cons_succ]
              refine take_at (i := 16) (v := ?_) rfl rfl (by kernel_rfl) (by kernel_rfl) (by kernel_rfl) (fun _ _ _ h => h) (by rfl) hS ?_ ?_
              rotate_left
              · intro w' hw
                obtain ⟨⟨s0, s1, s2⟩, p0, p1, p2⟩ := hw
                go_simp
                try with_reducible rfl
              try simp only [List.setIfInBounds_toArray, List.set_cons_zero, List.set_cons_succ]
              refine wpAnyH_done (by kernel_rfl) ?_ _
              clear hS
              go_wp2_with fail
              go_ret
              exact ⟨by rw [HF.out]; rfl, below_in hbr0 hc4⟩
      · obtain rfl : n = k := by omega
        have HT : Hid (R = true) := by show _ = _; rw [← HR.out, decide_eq_true (sorted_all (by omega) (by rw [hgl]; exact H1.out) (by rw [hgl]; exact H2.out))]
        clear H1 H2
        go_wp2_with fail
        go_ret
        exact ⟨by rw [HT.out]; rfl, hbr⟩
end Go.Proofs.YtnhalfdddcjicaaGreat
