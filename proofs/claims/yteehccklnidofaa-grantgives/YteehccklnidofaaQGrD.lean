/- The walks of the reference: Sorted, Bits. -/
import Derived.Test.YteehccklnidofaaQGrC
namespace Go.Proofs.Yteehccklnidofaa
open Go.RowKit
open Go.Op (bytesLess)

theorem sorted_pair {gs : List Gr} {k j : Nat} (hk : k < gs.length) (hj : j < k) (h : ltG (atG gs j) (atG gs k) = false) : ¬ SortedG gs := fun hs => by
  rw [hs.2.2 k hk j hj] at h; cases h

set_option maxRecDepth 100000 in
set_option maxHeartbeats 1600000 in
theorem rsorted_any (A : Option Addr) (n cap : Nat) (gs : List Gr) (w : World) (hr : RowG w A n gs) (hn : n ≤ maxLen) (hcap : n ≤ cap) :
    Calls Try.prog 10 #[.slice A n cap] w fun e w' => e = .returned (.bool (decide (SortedG gs))) ∧ Below w.heap.size w w' := by
  unfold maxLen at hn
  have hgl := hr.1
  obtain ⟨R, hR⟩ : ∃ R, decide (SortedG gs) = R := ⟨_, rfl⟩
  rw [hR]
  have HR := Lib.hid hR
  clear hR
  go_enter Try.func10, Try.ntmps10
  go_wp2_with fail
  go_loopw [9] (fun iv wr => ∃ (k : Nat), k ≤ n ∧ iv = .int .i64 k ∧ Hid (∀ j, j < k → goodG (atG gs j) = true) ∧ Hid (∀ j, j < k → ∀ i, i < j → ltG (atG gs i) (atG gs j) = true) ∧ Below w.heap.size w wr) (fun iv _ => n - (intOf iv).toNat)
  case atStart => exact ⟨0, by omega, rfl, show ∀ _, _ from fun j h => by omega, show ∀ _, _ from fun j h => by omega, Below.refl _ _⟩
  case round =>
    obtain ⟨k, hk, rfl, H1, H2, hbr⟩ := hrel
    by_cases hlt : k < n
    · obtain ⟨b, off, rfl, hbl, hcell⟩ := hr.2.2 (by omega)
      obtain ⟨c0, c1, c2⟩ := (hcell k hlt).keep fun i => hbr.cell (p := ⟨b, i, none⟩) hbl
      have hok := hr.2.1 _ (getD_in2 (l := gs) (k := k) (by omega))
      have hgood := fun w' => rgoodG_any (atG gs k) w' hok.table
      have K1 : Hid (goodG (atG gs k) = true → Hid (∀ j, j < k + 1 → goodG (atG gs j) = true)) := by
        show _ → _
        intro h
        show ∀ _, _
        intro j hj
        by_cases e : j = k
        · rw [e]; exact h
        · exact H1.out j (by omega)
      have K2 : Hid ((∀ i, i < k → ltG (atG gs i) (atG gs k) = true) → Hid (∀ j, j < k + 1 → ∀ i, i < j → ltG (atG gs i) (atG gs j) = true)) := by
        show _ → _
        intro h
        show ∀ _, _
        intro j hj i hi
        by_cases e : j = k
        · rw [e] at hi ⊢; exact h i hi
        · exact H2.out j (by omega) i hi
      have B1 := Lib.hid (sorted_bad (gs := gs) (k := k) (by omega))
      have B2 := Lib.hid (fun j hj => sorted_pair (gs := gs) (k := k) (j := j) (by omega) hj)
      have hkc : (k : Int) ≤ (cap : Int) := by omega
      clear H1 H2
      obtain ⟨g, hgg⟩ : ∃ g, g = gs.getD k default := ⟨_, rfl⟩
      rw [show atG gs k = gs.getD k default from rfl] at hgood K1 K2 B1 B2
      rw [← hgg] at hgood K1 K2 B1 B2 hok c0 c1 c2
      clear hgg
      obtain ⟨ro, tb, bi⟩ := g
      have hb0 := below_box wr (.cells #[.int .i64 ro, .string ⟨tb.toArray⟩, .int .i64 bi] 24)
      have hA0 := At.fresh wr 24 #[.int .i64 ro, .string ⟨tb.toArray⟩, .int .i64 bi]
      unfold Gr.val at hgood
      simp only at c0 c1 c2
      cases hg : goodG ⟨ro, tb, bi⟩ with
      | false =>
        have HF : Hid (R = false) := by show _ = _; rw [← HR.out, decide_eq_false (B1.out hg)]
        rw [hg] at hgood
        clear K1 K2 B1 B2 hcell hg
        go_wp2_with fail
        refine (hgood _).mono ?_
        rintro e w2 ⟨rfl, b2⟩
        have hb2 := below_in hbr (below_in hb0 b2)
        go_wp2_with fail
        go_ret
        exact ⟨by rw [HF.out]; rfl, hb2⟩
      | true =>
        have HK1 := K1.out hg
        rw [hg] at hgood
        clear K1 B1 hg
        go_wp2_with fail
        refine (hgood _).mono ?_
        rintro e w2 ⟨rfl, b2⟩
        have hb2 := below_in hbr (below_in hb0 b2)
        have hA2 := hA0.below b2 hA0.lt
        clear b2 hA0 hb0 hgood c0 c1 c2
        go_wp2_with fail
        have hbz : Below w2.heap.size w2 w2 := Below.refl _ _
        generalize hZ : wr.heap.size = Z at *
        go_loopw [21] (fun iv wx => ∃ (m : Nat), m ≤ k ∧ iv = .int .i64 m ∧ Hid (∀ j, j < m → ltG (atG gs j) ⟨ro, tb, bi⟩ = true) ∧ At wx Z 24 #[.int .i64 ro, .string ⟨tb.toArray⟩, .int .i64 bi] ∧ Below w.heap.size w wx) (fun iv _ => k - (intOf iv).toNat)
        case atStart => exact ⟨0, by omega, rfl, show ∀ _, _ from fun j h => by omega, hA2, hb2⟩
        case round =>
          obtain ⟨m, hm, rfl, H3, hAx, hbx⟩ := hrel
          clear hA2 hb2 hbz
          by_cases hlm : m < k
          · obtain ⟨d0, d1, d2⟩ := (hcell m (by omega)).keep fun i => hbx.cell (p := ⟨b, i, none⟩) hbl
            have B3 := Lib.hid (fun h => B2.out m hlm h)
            have K3 : Hid (ltG (atG gs m) ⟨ro, tb, bi⟩ = true → Hid (∀ j, j < m + 1 → ltG (atG gs j) ⟨ro, tb, bi⟩ = true)) := by
              show _ → _
              intro h
              show ∀ _, _
              intro j hj
              by_cases e : j = m
              · rw [e]; exact h
              · exact H3.out j (by omega)
            obtain ⟨g', hgg⟩ : ∃ g', g' = gs.getD m default := ⟨_, rfl⟩
            rw [show atG gs m = gs.getD m default from rfl] at K3 B3
            rw [← hgg] at K3 B3 d0 d1 d2
            clear hgg hcell H3 K2 B2
            obtain ⟨ro', tb', bi'⟩ := g'
            simp only at d0 d1 d2
            have hb0 := below_box wr (.cells #[.int .i64 ro', .string ⟨tb'.toArray⟩, .int .i64 bi'] 24)
            have hb3 := below_in hbx hb0
            have hA3 := hAx.below hb0 hAx.lt
            obtain ⟨t0, t1, t2⟩ := hA3.tri0
            have hmk : (m : Int) < (k : Int) := by omega
            have hmc : (m : Int) < (cap : Int) := by omega
            clear hb0
            by_cases e1 : ro < ro'
            · have HB : Hid (R = false) := by show _ = _; rw [← HR.out, decide_eq_false (B3.out (ltK_gt e1 _ _))]
              have e1' : (ro' > ro) := e1
              clear B3 K3 hAx hbx
              go_wp2_with fail
              all_goals
                go_ret
                exact ⟨by rw [HB.out]; rfl, hb3⟩
            · by_cases e2 : ro' = ro
              · subst e2
                have hke := ltK_eq ro' tb' tb
                have K4 : Hid (bytesLess tb' tb = true → Hid (∀ j, j < m + 1 → ltG (atG gs j) ⟨ro', tb, bi⟩ = true)) := by
                  show _ → _
                  intro h
                  exact K3.out (hke.trans h)
                have B4 : Hid (bytesLess tb' tb = false → R = false) := by
                  show _ → _
                  intro h
                  rw [← HR.out, decide_eq_false (B3.out (hke.trans h))]
                clear hke K3 B3 hAx hbx
                cases hs : bytesLess tb' tb with
                | true =>
                  have HK3 := K4.out hs
                  clear K4 B4
                  go_wp2_with fail
                  exact ⟨⟨m + 1, by omega, by go_num, HK3, hA3, hb3⟩, by simp [intOf]; omega⟩
                | false =>
                  have HB := Lib.hid (B4.out hs)
                  clear K4 B4
                  go_wp2_with fail
                  go_ret
                  exact ⟨by rw [HB.out]; rfl, hb3⟩
              · have HK3 := K3.out (ltK_lt (show ro' < ro by omega) _ _)
                clear B3 K3 hAx hbx
                go_wp2_with fail
                exact ⟨⟨m + 1, by omega, by go_num, HK3, hA3, hb3⟩, by simp [intOf]; omega⟩
          · obtain rfl : k = m := by omega
            have HK2 := K2.out H3.out
            go_wp2_with fail
            exact ⟨⟨k + 1, by omega, by go_num, HK1, HK2, hbx⟩, by simp [intOf]; omega⟩
    · obtain rfl : n = k := by omega
      by_cases h64 : n ≤ 64
      · have HT : Hid (R = true) := by show _ = _; rw [← HR.out, decide_eq_true ⟨by omega, by rw [hgl]; exact H1.out, by rw [hgl]; exact H2.out⟩]
        clear H1 H2
        go_wp2_with fail
        go_ret
        exact ⟨by rw [HT.out]; first | rfl | (show Ending.returned (Value.bool _) = _; congr 2; simp; omega), hbr⟩
      · have HT : Hid (R = false) := by show _ = _; rw [← HR.out, decide_eq_false (fun h => by have := h.1; omega)]
        clear H1 H2
        go_wp2_with fail
        go_ret
        exact ⟨by rw [HT.out]; first | rfl | (show Ending.returned (Value.bool _) = _; congr 2; simp; omega), hbr⟩

set_option maxRecDepth 100000 in
set_option maxHeartbeats 1600000 in
theorem rbits_any (A : Option Addr) (n cap : Nat) (gs : List Gr) (r : Int) (t : List UInt8) (w : World) (hr : RowG w A n gs) (hn : n ≤ maxLen) :
    Calls Try.prog 12 #[.slice A n cap, .int .i64 r, .string ⟨t.toArray⟩] w fun e w' => e = .returned (.int .i64 (bitsG r t gs)) ∧ Below w.heap.size w w' := by
  unfold maxLen at hn
  have hgl := hr.1
  obtain ⟨R, hR⟩ : ∃ R, bitsG r t gs = R := ⟨_, rfl⟩
  rw [hR]
  have HR := Lib.hid hR
  clear hR
  go_enter Try.func12, Try.ntmps12
  go_wp2_with fail
  go_loopw [11] (fun iv wr => ∃ (k : Nat), k ≤ n ∧ iv = .int .i64 k ∧ Hid (∀ j, j < k → ¬ ((atG gs j).role = r ∧ (atG gs j).table = t)) ∧ Below w.heap.size w wr) (fun iv _ => n - (intOf iv).toNat)
  case atStart => exact ⟨0, by omega, rfl, show ∀ _, _ from fun j h => by omega, Below.refl _ _⟩
  case round =>
    obtain ⟨k, hk, rfl, H1, hbr⟩ := hrel
    by_cases hlt : k < n
    · obtain ⟨b, off, rfl, hbl, hcell⟩ := hr.2.2 (by omega)
      obtain ⟨c0, c1, c2⟩ := (hcell k hlt).keep fun i => hbr.cell (p := ⟨b, i, none⟩) hbl
      have KH : Hid ((atG gs k).role = r → (atG gs k).table = t → R = (atG gs k).bits) := by
        show _ → _ → _
        intro h1 h2
        rw [← HR.out]
        exact bitsG_hit (by omega) H1.out h1 h2
      have KN : Hid (¬ ((atG gs k).role = r ∧ (atG gs k).table = t) → Hid (∀ j, j < k + 1 → ¬ ((atG gs j).role = r ∧ (atG gs j).table = t))) := by
        show _ → _
        intro h
        show ∀ _, _
        intro j hj
        by_cases e : j = k
        · rw [e]; exact h
        · exact H1.out j (by omega)
      clear H1 hcell
      obtain ⟨g, hgg⟩ : ∃ g, g = gs.getD k default := ⟨_, rfl⟩
      rw [show atG gs k = gs.getD k default from rfl] at KH KN
      rw [← hgg] at KH KN c0 c1 c2
      clear hgg
      obtain ⟨ro, tb, bi⟩ := g
      simp only at c0 c1 c2
      have hb0 := below_box wr (.cells #[.int .i64 ro, .string ⟨tb.toArray⟩, .int .i64 bi] 24)
      have hb3 := below_in hbr hb0
      clear hb0
      by_cases e1 : ro = r
      · subst e1
        by_cases e2 : tb = t
        · have HB := Lib.hid (KH.out rfl e2)
          have e2' : (tb == t) = true := by simp [e2]
          clear KH KN
          subst e2
          go_wp2_with fail
          go_ret
          exact ⟨by rw [HB.out]; rfl, hb3⟩
        · have HB := KN.out (fun h => e2 h.2)
          have e2' : (tb == t) = false := by simp [e2]
          clear KH KN
          go_wp2_with fail
          exact ⟨⟨k + 1, by omega, by go_num, HB, hb3⟩, by simp [intOf]; omega⟩
      · have HB := KN.out (fun h => e1 h.1)
        have e1' : (ro == r) = false := by simp [e1]
        clear KH KN
        go_wp2_with fail
        exact ⟨⟨k + 1, by omega, by go_num, HB, hb3⟩, by simp [intOf]; omega⟩
    · obtain rfl : n = k := by omega
      have HT : Hid (R = 0) := by show _ = _; rw [← HR.out]; exact bitsG_none (by rw [hgl]; exact H1.out)
      clear H1
      go_wp2_with fail
      go_ret
      exact ⟨by rw [HT.out]; rfl, hbr⟩
end Go.Proofs.Yteehccklnidofaa
