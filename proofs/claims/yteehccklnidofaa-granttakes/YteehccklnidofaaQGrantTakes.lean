/- The walk of the law GrantTakes. -/
import Derived.Test.YteehccklnidofaaQGTa
import Derived.Test.YteehccklnidofaaQGrO
namespace Go.Proofs.Yteehccklnidofaa
open Go.RowKit

/-- What Take makes of a sorted list, in the law's own cases. -/
def TakeLaw (gs : List Gr) (g : Gr) (er : Int) (gs' : List Gr) : Prop :=
  (goodG g = false ∧ er = 1 ∧ gs' = []) ∨ (goodG g = true ∧ er = 0 ∧ SortedG gs' ∧ gs'.length ≤ gs.length ∧ ∀ r t, bitsG r t gs' = if r = g.role ∧ t = g.table then anI (bitsG r t gs) g.bits else bitsG r t gs)
theorem take_law {gs gs' : List Gr} {g : Gr} {er : Int} (hs : SortedG gs) (h : TakeR gs g er gs') : TakeLaw gs g er gs' := by
  have h0 := h
  rcases h with h | ⟨hg, he, -⟩
  · exact .inl h
  · subst he
    obtain ⟨k1, k2, k3⟩ := take_spec hs h0
    exact .inr ⟨hg, rfl, k1, k2, k3⟩
theorem take_ok {gs gs' : List Gr} {g : Gr} {er : Int} (h : TakeLaw gs g er gs') : ∀ x ∈ gs', x.Ok := fun x hx => by
  rcases h with ⟨-, -, rfl⟩ | ⟨-, -, hs, -⟩
  · cases hx
  · exact ok_of_good (((sorted_pw _).1 hs).2.1 x hx)
theorem wo_at {T : List UInt8} {gs : List Gr} {k : Nat} (h : k < gs.length) (e : ¬ (atG gs k).table = T) : (woG T (gs.take k)).length < (woG T gs).length ∧ (woG T gs).getD (woG T (gs.take k)).length default = gs.getD k default := by
  have hs : woG T gs = woG T (gs.take k) ++ atG gs k :: woG T (gs.drop (k + 1)) := by
    have h1 := congrArg (woG T) (split_at h)
    rw [h1]
    unfold woG
    rw [List.filter_append, List.filter_cons_of_pos (by simpa using e)]
  rw [hs]
  refine ⟨by simp, ?_⟩
  rw [List.getD_eq_getElem?_getD, List.getElem?_append_right (Nat.le_refl _), Nat.sub_self]
  rfl

set_option maxRecDepth 100000 in
set_option maxHeartbeats 3200000 in
theorem grantTakes_main (A : Option Addr) (n cap : Nat) (gs : List Gr) (g : Gr) (w : World) (hr : RowG w A n gs) (hn : n ≤ maxLen) (hcap : n ≤ cap) (hg : g.Ok) :
    Calls Try.prog 4 #[.slice A n cap, g.val] w fun e w' => e = .returned (.bool true) ∧ Below w.heap.size w w' := by
  have b0 := below_box w (.cells #[.int .i64 g.role, .string ⟨g.table.toArray⟩, .int .i64 g.bits] 24)
  have aG := At.fresh w 24 #[.int .i64 g.role, .string ⟨g.table.toArray⟩, .int .i64 g.bits]
  have hgl := hr.1
  have hin := fun w' (k : Below w.heap.size w w') => hr.below k
  have hGr := fun w' (k : Below w.heap.size w w') => ggreat_any A n cap gs w' (hin w' k) hn
  have hgt := hg.table
  unfold maxLen at hgt
  simp only [Gr.val]
  go_enter Try.func4, Try.ntmps4
  go_wp2_with fail
  generalize (w.alloc (.cells #[.int .i64 g.role, .string ⟨g.table.toArray⟩, .int .i64 g.bits] 24)) = wb at *
  refine (alive_any _).mono ?_
  rintro e w1 ⟨rfl, b1⟩
  have k1 := below_in b0 b1
  have aG1 := aG.below b1 aG.lt
  go_wp2_with fail
  refine (hGr _ k1).mono ?_
  rintro e w2 ⟨⟨B, rfl⟩, b2⟩
  have k2 := below_in k1 b2
  have aG2 := aG1.below b2 aG1.lt
  obtain ⟨p0, p1, p2⟩ := aG2.tri0
  cases B with
  | true =>
    go_wp2_with fail
    go_ret
    exact ⟨rfl, k2⟩
  | false =>
    by_cases h3 : 200 < g.table.length
    · have h3' : decide ((200 : Int) < (g.table.length : Int)) = true := by simp; omega
      go_wp2_with fail
      go_ret
      exact ⟨rfl, k2⟩
    · have h3' : decide ((200 : Int) < (g.table.length : Int)) = false := by simp; omega
      have h3n : ¬ ((200 : Int) < (g.table.length : Int)) := by omega
      have hS1 := fun w' (k : Below w.heap.size w w') => rsorted_any A n cap gs w' (hin w' k) hn hcap
      obtain ⟨D, hD⟩ : ∃ D, decide (SortedG gs) = D := ⟨_, rfl⟩
      rw [hD] at hS1
      have HD := Lib.hid hD
      clear hD hGr h3
      go_wp2_with fail
      refine (hS1 _ k2).mono ?_
      rintro e w3 ⟨rfl, b3⟩
      have k3 := below_in k2 b3
      have aG3 := aG2.below b3 aG2.lt
      clear hS1 p0 p1 p2
      cases D with
      | false =>
        go_wp2_with fail
        go_ret
        exact ⟨rfl, k3⟩
      | true =>
        have hsrt := of_decide_eq_true HD.out
        have hn64 : n ≤ 64 := by have := hsrt.1; omega
        have HS := Lib.hid hsrt
        clear hsrt HD
        obtain ⟨p0, p1, p2⟩ := aG3.tri0
        have hP := gtake_any A n cap gs g w3 (hin _ k3) (by omega) hg
        unfold Gr.val at hP
        go_wp2_with fail
        refine hP.mono ?_
        rintro e w4 ⟨⟨v, er, gs', rfl, ho, hR⟩, b4⟩
        have k4 := below_in k3 b4
        have aG4 := aG3.below b4 aG3.lt
        have hL := take_law HS.out hR
        obtain ⟨A', c', rfl, hrow, hc'⟩ := own_rowG ho (take_ok hL)
        clear hP hR p0 p1 p2 ho
        have HLW := Lib.hid hL
        clear hL
        obtain ⟨m, hm⟩ : ∃ m, gs'.length = m := ⟨_, rfl⟩
        rw [hm] at hrow hc' ⊢
        have hrow' := fun w' (k : Below w4.heap.size w4 w') => hrow.below k
        clear hrow
        obtain ⟨p0, p1, p2⟩ := aG4.tri0
        have hW := gwithout_any A n cap gs g.table w4 (hin _ k4) (by omega)
        go_wp2_with fail
        refine hW.mono ?_
        rintro e w5 ⟨v2, rfl, ho2, b5⟩
        have k5 := below_in k4 b5
        have aG5 := aG4.below b5 aG4.lt
        clear hW p0 p1 p2
        obtain ⟨A2, c2, rfl, hrs, hc2⟩ := own_rowG ho2 (fun x hx => hr.2.1 x (List.mem_filter.1 hx).1)
        clear ho2
        have hrl := wo_len g.table gs
        obtain ⟨q, hq⟩ : ∃ q, (woG g.table gs).length = q := ⟨_, rfl⟩
        rw [hq] at hrs hc2 hrl ⊢
        go_wp2_with fail
        go_loopw [8, 43] (fun nv iv wr => ∃ k c : Nat, k ≤ n ∧ iv = .int .i64 k ∧ nv = .int .i64 c ∧ Hid ((woG g.table (gs.take k)).length = c) ∧ Below w5.heap.size w5 wr) (fun _ iv _ => n - (intOf iv).toNat)
        case atStart => exact ⟨0, 0, by omega, rfl, rfl, Lib.hid rfl, Below.refl _ _⟩
        case round =>
          obtain ⟨k, c, hk, rfl, rfl, HC, bR⟩ := hrel
          have kR := below_in k5 bR
          by_cases hlt : k < n
          · obtain ⟨b, off, rfl, hbl, hcell⟩ := hr.2.2 (by omega)
            obtain ⟨c0, c1, c2⟩ := (hcell k hlt).keep fun i => kR.cell (p := ⟨b, i, none⟩) hbl
            have KY : Hid ((atG gs k).table = g.table → (woG g.table (gs.take (k + 1))).length = c) := fun e => by rw [wo_yes (by omega) e]; exact HC.out
            have KN : Hid (¬ (atG gs k).table = g.table → (woG g.table (gs.take (k + 1))).length = c + 1 ∧ c < q ∧ (woG g.table gs).getD c default = gs.getD k default) := fun e => by
              obtain ⟨h1, h2⟩ := wo_at (by omega) e
              rw [HC.out] at h1 h2
              exact ⟨by rw [wo_no (by omega) e, List.length_append, HC.out]; rfl, by omega, h2⟩
            rw [show atG gs k = gs.getD k default from rfl] at KY KN
            clear hcell
            generalize gs.getD k default = x at c0 c1 c2 KY KN
            obtain ⟨xr, xt, xb⟩ := x
            simp only at c0 c1 c2 KY KN
            have hb0 := below_box wr (.cells #[.int .i64 xr, .string ⟨xt.toArray⟩, .int .i64 xb] 24)
            have aX := At.fresh wr 24 #[.int .i64 xr, .string ⟨xt.toArray⟩, .int .i64 xb]
            have bX := below_in bR hb0
            have aGX := aG5.below bX aG5.lt
            obtain ⟨u0, u1, u2⟩ := aX.tri0
            obtain ⟨p0, p1, p2⟩ := aGX.tri0
            by_cases e : xt = g.table
            · have HN := Lib.hid (KY.out e)
              clear KY KN
              subst e
              have e2 : (g.table == g.table) = true := by simp
              go_wp2_with fail
              exact ⟨⟨k + 1, c, by omega, by go_num, rfl, HN, bX⟩, by simp [intOf]; omega⟩
            · have e2 : (xt == g.table) = false := by simp [e]
              have HN := Lib.hid (KN.out e).1
              obtain ⟨-, hcq, hcx⟩ := KN.out e
              have hcqI : ¬ ((q : Int) ≤ (c : Int)) := by omega
              have hcqJ : (c : Int) < (q : Int) := by omega
              clear KY KN
              obtain ⟨b2, o2, rfl, hl2, h2⟩ := (hrs.below bX).2.2 (by omega)
              obtain ⟨d0, d1, d2⟩ := h2 c hcq
              rw [hcx] at d0 d1 d2
              simp only at d0 d1 d2
              clear h2 hcx
              go_wp2_with fail
              go_quiet (fail)
              go_wp2_with fail
              exact ⟨⟨k + 1, c + 1, by omega, by go_num, by go_num, HN, below_nq bX _⟩, by simp [intOf]; omega⟩
          · obtain rfl : n = k := by omega
            rw [List.take_of_length_le (by omega), hq] at HC
            obtain rfl : q = c := HC.out
            have aGX := aG5.below bR aG5.lt
            obtain ⟨p0, p1, p2⟩ := aGX.tri0
            have hgd := rgoodG_any g wr hg.table
            unfold Gr.val at hgd
            rcases HLW.out with ⟨h1, rfl, rfl⟩ | ⟨h1, rfl, hs', hlen, hbits⟩
            · rw [h1] at hgd
              have hm0 : m = 0 := by rw [← hm]; rfl
              clear HLW
              subst hm0
              go_wp2_with fail
              refine hgd.mono ?_
              rintro e w6 ⟨rfl, b6⟩
              have k6 := below_in kR b6
              go_wp2_with fail
              go_ret
              exact ⟨rfl, k6⟩
            · rw [h1] at hgd
              have HS' := Lib.hid hs'
              have HB := Lib.hid hbits
              have HG := Lib.hid h1
              have hl' : m ≤ 64 := by rw [← hm]; exact hs'.1
              have hml : m ≤ n := by omega
              have hmlI : ¬ ((n : Int) < (m : Int)) := by omega
              have hmlD : decide ((n : Int) < (m : Int)) = false := by simp; omega
              have hmlN : decide (n < m) = false := by simp; omega
              have hmlM : ¬ (n < m) := by omega
              clear HLW hs' hbits hlen h1
              have jR : Below w4.heap.size w4 wr := b5.trans (bR.mono b5.size)
              go_wp2_with fail
              refine hgd.mono ?_
              rintro e w6 ⟨rfl, b6⟩
              have k6 := below_in kR b6
              have j6 := below_in jR b6
              clear hgd p0 p1 p2
              go_wp2_with fail
              have hSr := rsorted_any A' m c' gs' w6 (hrow' _ j6) (by unfold maxLen; omega) hc'
              rw [decide_eq_true HS'.out] at hSr
              refine hSr.mono ?_
              rintro e w7 ⟨rfl, b7⟩
              have k7 := below_in k6 b7
              have j7 := below_in j6 b7
              clear hSr
              have aG7 := aGX.below (below_in b6 b7) aGX.lt
              clear aGX bR kR jR
              go_wp2_with fail
              go_loopw [97] (fun iv wr => ∃ k : Nat, k ≤ n ∧ iv = .int .i64 k ∧ Below w7.heap.size w7 wr) (fun iv _ => n - (intOf iv).toNat)
              case atStart => exact ⟨0, by omega, rfl, Below.refl _ _⟩
              case round =>
                obtain ⟨k, hk, rfl, bR⟩ := hrel
                have kR := below_in k7 bR
                have jR := below_in j7 bR
                by_cases hlt : k < n
                · obtain ⟨b, off, rfl, hbl, hcell⟩ := hr.2.2 (by omega)
                  obtain ⟨c0, c1, c2⟩ := (hcell k hlt).keep fun i => kR.cell (p := ⟨b, i, none⟩) hbl
                  have hmem : gs.getD k default ∈ gs := getD_in2 (by omega)
                  have hE := HB.out (gs.getD k default).role (gs.getD k default).table
                  rw [bits_mem ((sorted_pw _).1 HS.out).2.2 hmem] at hE
                  clear hcell hmem
                  generalize gs.getD k default = x at c0 c1 c2 hE
                  obtain ⟨xr, xt, xb⟩ := x
                  simp only at c0 c1 c2 hE
                  have hb0 := below_box wr (.cells #[.int .i64 xr, .string ⟨xt.toArray⟩, .int .i64 xb] 24)
                  have aX := At.fresh wr 24 #[.int .i64 xr, .string ⟨xt.toArray⟩, .int .i64 xb]
                  have bX := below_in bR hb0
                  have jX := below_in jR hb0
                  have aGX := aG7.below bX aG7.lt
                  have R2 := rbits_any A' m c' gs' xr xt _ (hrow' _ jX) (by unfold maxLen; omega)
                  obtain ⟨u0, u1, u2⟩ := aX.tri0
                  obtain ⟨p0, p1, p2⟩ := aGX.tri0
                  by_cases e1 : xr = g.role
                  · by_cases e2 : xt = g.table
                    · subst e1 e2
                      rw [if_pos ⟨rfl, rfl⟩] at hE
                      unfold anI at hE
                      rw [hE] at R2
                      clear hE
                      go_wp2_with fail
                      refine R2.mono ?_
                      rintro e wB ⟨rfl, bB⟩
                      have fXB := below_in bX bB
                      go_wp2_with fail
                      exact ⟨⟨k + 1, by omega, by go_num, fXB⟩, by simp [intOf]; omega⟩
                    · have e2' : (xt == g.table) = false := by simp [e2]
                      rw [if_neg (fun h => e2 h.2)] at hE
                      rw [hE] at R2
                      clear hE
                      subst e1
                      go_wp2_with fail
                      refine R2.mono ?_
                      rintro e wB ⟨rfl, bB⟩
                      have fXB := below_in bX bB
                      go_wp2_with fail
                      exact ⟨⟨k + 1, by omega, by go_num, fXB⟩, by simp [intOf]; omega⟩
                  · have e1' : (xr == g.role) = false := by simp [e1]
                    rw [if_neg (fun h => e1 h.1)] at hE
                    rw [hE] at R2
                    clear hE
                    go_wp2_with fail
                    refine R2.mono ?_
                    rintro e wB ⟨rfl, bB⟩
                    have fXB := below_in bX bB
                    go_wp2_with fail
                    exact ⟨⟨k + 1, by omega, by go_num, fXB⟩, by simp [intOf]; omega⟩
                · obtain rfl : n = k := by omega
                  obtain ⟨wz, rfl⟩ : ∃ wz, wz = wr := ⟨_, rfl⟩
                  go_wp2_with fail
                  go_loopw [131] (fun iv wr => ∃ k : Nat, k ≤ m ∧ iv = .int .i64 k ∧ Below wz.heap.size wz wr) (fun iv _ => m - (intOf iv).toNat)
                  case atStart => exact ⟨0, by omega, rfl, Below.refl _ _⟩
                  case round =>
                    obtain ⟨k, hk2, rfl, bS⟩ := hrel
                    have kS := below_in kR bS
                    have jS := below_in jR bS
                    by_cases hlt2 : k < m
                    · obtain ⟨b, off, rfl, hbl, hcell⟩ := (hrow' _ jS).2.2 (by omega)
                      obtain ⟨c0, c1, c2⟩ := hcell k hlt2
                      have hmem : gs'.getD k default ∈ gs' := getD_in2 (by omega)
                      have hE := HB.out (gs'.getD k default).role (gs'.getD k default).table
                      rw [bits_mem ((sorted_pw _).1 HS'.out).2.2 hmem] at hE
                      have hpos := (good_parts (((sorted_pw _).1 HS'.out).2.1 _ hmem)).2.2.1
                      clear hcell hmem
                      generalize gs'.getD k default = x at c0 c1 c2 hE hpos
                      obtain ⟨xr, xt, xb⟩ := x
                      simp only at c0 c1 c2 hE hpos
                      have hb0 := below_box wr (.cells #[.int .i64 xr, .string ⟨xt.toArray⟩, .int .i64 xb] 24)
                      have aX := At.fresh wr 24 #[.int .i64 xr, .string ⟨xt.toArray⟩, .int .i64 xb]
                      have bX := below_in bS hb0
                      have kX := below_in kS hb0
                      have R2 := rbits_any A n cap gs xr xt _ (hin _ kX) hn
                      have hV0 : ¬ (bitsG xr xt gs = 0) := fun h0 => by
                        rw [h0, an_zero (five_of HG.out)] at hE
                        rw [ite_self] at hE
                        omega
                      clear hE
                      generalize bitsG xr xt gs = V at R2 hV0
                      have hV1 : (V == 0) = false := by simp [hV0]
                      obtain ⟨u0, u1, u2⟩ := aX.tri0
                      go_wp2_with fail
                      refine R2.mono ?_
                      rintro e wB ⟨rfl, bB⟩
                      have fXB := below_in bX bB
                      go_wp2_with fail
                      exact ⟨⟨k + 1, by omega, by go_num, fXB⟩, by simp [intOf]; omega⟩
                    · obtain rfl : m = k := by omega
                      go_wp2_with fail
                      go_ret
                      exact ⟨rfl, kS⟩
end Go.Proofs.Yteehccklnidofaa
