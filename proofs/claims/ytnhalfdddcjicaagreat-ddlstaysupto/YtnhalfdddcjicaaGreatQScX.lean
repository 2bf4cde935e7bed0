/- The walk of the reference's Good. -/
import Derived.Test.YtnhalfdddcjicaaGreatQScW
namespace Go.Proofs.YtnhalfdddcjicaaGreat
open Go.RowKit

theorem firstE_all {f : Nat → Int} : ∀ {n : Nat}, firstE f n = 0 → ∀ j, j < n → f j = 0
  | 0, _, j, hj => absurd hj (by omega)
  | n + 1, h, j, hj => by
    rw [firstE] at h
    by_cases h0 : firstE f n = 0
    · rw [if_pos h0] at h
      by_cases hjn : j = n
      · rw [hjn]; exact h
      · exact firstE_all h0 j (by omega)
    · rw [if_neg h0] at h; exact absurd h h0
theorem colE_kind {t : Tb} {s : Sc} {i : Nat} (h : colE t s i = 0) : 1 ≤ (t.cols.getD i default).kind ∧ (t.cols.getD i default).kind ≤ 3 := by
  unfold colE at h
  split at h
  · cases h
  · split at h
    · cases h
    · rename_i hf
      have : formB (t.cols.getD i default) = true := by simpa using hf
      unfold formB at this
      rw [Bool.and_eq_true, Bool.and_eq_true, decide_eq_true_eq] at this
      exact this.1.2
theorem kinds_rng {w : World} {t : Tb} {s : Sc} (h : RowC w t.cA t.cn t.cols) (hz : firstE (colE t s) t.cn = 0) : ∀ k ∈ t.cols.map (·.kind), 0 ≤ k ∧ k ≤ 3 := fun k hk => by
  rw [List.mem_map] at hk
  obtain ⟨c, hc, rfl⟩ := hk
  obtain ⟨j, hj, rfl⟩ := List.getElem_of_mem hc
  have h1 := colE_kind (firstE_all hz j (by rw [← h.1]; exact hj))
  rw [List.getD_eq_getElem?_getD, List.getElem?_eq_getElem hj] at h1
  simp only [Option.getD_some] at h1
  omega
theorem kindL_rng {ks : List Int} (hk : ∀ k ∈ ks, 0 ≤ k ∧ k ≤ 3) {e : Ex} {k : Int} (h : kindL ks e = .ok k) : 0 ≤ k ∧ k ≤ 3 := by
  unfold kindL at h
  split at h
  · cases h
  · exact kindQ_rng hk e k h

set_option maxRecDepth 100000 in
set_option maxHeartbeats 12800000 in
theorem rgoodT_any (t : Tb) (s : Sc) (w : World) (ht : InT w t) (hs : InS w s) (hwt : wtT t ≤ 1048576) :
    Calls Tryz.prog 27 #[t.val, s.val] w fun e w' => e = .returned (.int .i64 (goodE t s)) ∧ Below w.heap.size w w' := by
  have H : Hid (goodE t s = if nameN t.name = false then 4 else if roleB t.owner = false then 4 else if t.cn = 0 then 4
    else if 6 < t.cn then 3 else if 4 < t.en then 3
    else if firstE (colE t s) t.cn = 0 then firstE (fun j => chkE (t.cols.map (·.kind)) (t.chk j)) t.en else firstE (colE t s) t.cn) := rfl
  have HRO : Hid (roleB t.owner = (decide (0 ≤ t.owner) && decide (t.owner ≤ 7))) := rfl
  have hN := refName_any t.name ht.name
  have hcm := ht.cmax
  have hem := ht.emax
  unfold maxLen at hcm hem
  have HKR := Lib.hid (fun hz => kinds_rng (s := s) ht.cols hz)
  have hPl := fun x w1 (b1 : Below w.heap.size w w1) => refPlace_any t x w1 (ht.cols.below b1) ht.cmax
  have hFd := fun x w1 (b1 : Below w.heap.size w w1) => refFind_any s x w1 (hs.below b1)
  have hKd := fun x w1 hx hw hr (b1 : Below w.heap.size w w1) => KindR_any x t.cA t.cn t.ccap (t.cols.map (·.kind)) w1 hx hw (ht.cols.kinds.below b1) hr ht.cmax
  have hwx : ∀ j, j < t.en → wtE (t.chk j) ≤ 2000000 := fun j hj => by
    have : wtE (t.chk j) ≤ sumN t.en fun j => wtE (t.chk j) := sumN_at (fun j => wtE (t.chk j)) hj
    unfold wtT at hwt
    omega
  have hrow := ht.chk
  have hrc := ht.cols
  have hT := hs.tabs
  have htm := hs.tmax
  unfold maxLen at htm
  have hfirst : 0 < t.cn → ∃ b off, t.cA = some ⟨b, off, none⟩ ∧ b < w.heap.size ∧ w.cell? ⟨b, off + 1, none⟩ = some (.int .i64 (kind0 t)) := fun h0 => by
    obtain ⟨b, off, e1, e2, e3, _⟩ := ht.cols.first h0
    exact ⟨b, off, e1, e2, e3⟩
  have HB := fun k => colE_bad (t := t) (s := s) (i := k)
  have HG := fun k => colE_good (t := t) (s := s) (i := k)
  have HRE : ∀ c, refE c t s = if c.ref = t.name then tgtE t c.kind else match firstAt (fun j => (s.tab j).name) c.ref s.tn with | none => 8 | some i => tgtE (s.tab i) c.kind := fun _ => rfl
  have HTE : ∀ o k, Hid (tgtE o k = if o.cn = 0 then 8 else if kind0 o = k then 0 else 9) := fun _ _ => rfl
  have HT0 : ∀ k, Hid (tgtE t k = if t.cn = 0 then 8 else if kind0 t = k then 0 else 9) := fun _ => rfl
  clear ht hs hwt
  have HEH := (fun k h1 h2 h3 => firstE_hit (f := colE t s) (k := k) (n := t.cn) h1 h2 h3)
  have HEN := (fun k h1 h3 => firstE_next (f := colE t s) (k := k) h1 h3)
  have HXH := (fun k h1 h2 h3 => firstE_hit (f := fun j => chkE (t.cols.map (·.kind)) (t.chk j)) (k := k) (n := t.en) h1 h2 h3)
  have HXN := (fun k h1 h3 => firstE_next (f := fun j => chkE (t.cols.map (·.kind)) (t.chk j)) (k := k) h1 h3)
  have HX0 : firstE (fun j => chkE (t.cols.map (·.kind)) (t.chk j)) 0 = 0 := rfl
  have HE0 : firstE (colE t s) 0 = 0 := rfl
  generalize colE t s = fc at *
  obtain ⟨rE, hrE⟩ : ∃ rE : Co → Int, (fun c => refE c t s) = rE := ⟨_, rfl⟩
  have hrE' : ∀ c, refE c t s = rE c := fun c => by rw [← hrE]
  simp only [hrE'] at HG HRE
  obtain ⟨tg, htg⟩ : ∃ tg : Int → Int, (fun k => tgtE t k) = tg := ⟨_, rfl⟩
  have htg' : ∀ k, tgtE t k = tg k := fun k => by rw [← htg]
  simp only [htg'] at HRE HT0
  clear hrE hrE' htg htg'
  generalize kind0 t = k0 at *
  have HEH := Lib.hid HEH
  have HEN := Lib.hid HEN
  have HXH := Lib.hid HXH
  have HXN := Lib.hid HXN
  have HX0 := Lib.hid HX0
  have HE0 := Lib.hid HE0
  have HB := fun k => Lib.hid (HB k)
  have HG := fun k => Lib.hid (HG k)
  have HRE := fun c => Lib.hid (HRE c)
  generalize goodE t s = gE at *
  obtain ⟨tnm, ow, cA, cn, ccap, cols, eA, en, ecap, chk⟩ := t
  obtain ⟨ver, tA, tn, tcap, tab, gA, gn, gcap, gs⟩ := s
  simp only at H HRO hN hcm hem HKR hPl hFd hKd hwx hrow hrc hT htm hfirst HB HG HRE HT0 HEH HEN HXH HXN HX0
  obtain ⟨W, hW⟩ : ∃ W, (w.alloc (.cells #[.string ⟨tnm.toArray⟩, .int .i64 ow, .slice cA cn ccap, .slice eA en ecap] 32)).alloc
    (.cells #[.int .i64 ver, .slice tA tn tcap, .slice gA gn gcap] 25) = W := ⟨_, rfl⟩
  have b3 : Below w.heap.size w W := by
    rw [← hW]
    have b0 := below_box w (.cells #[.string ⟨tnm.toArray⟩, .int .i64 ow, .slice cA cn ccap, .slice eA en ecap] 32)
    exact b0.alloc b0.size _
  have aT : At W w.heap.size 32 #[.string ⟨tnm.toArray⟩, .int .i64 ow, .slice cA cn ccap, .slice eA en ecap] := by
    rw [← hW]
    exact (At.fresh _ _ _).alloc _
  have aS : At W (w.heap.size + 1) 25 #[.int .i64 ver, .slice tA tn tcap, .slice gA gn gcap] := by
    rw [← hW]
    have := At.fresh (w.alloc (.cells #[.string ⟨tnm.toArray⟩, .int .i64 ow, .slice cA cn ccap, .slice eA en ecap] 32)) 25 #[.int .i64 ver, .slice tA tn tcap, .slice gA gn gcap]
    simp only [World.size_alloc] at this
    exact this
  have hWc := Lib.hid hW
  clear hW
  unfold Tb.val Sc.val at *
  go_enter Tryz.func27, Tryz.ntmps27
  go_wp2_with fail
  rw [hWc.out]
  clear hWc
  refine (hN _).mono ?_
  rintro e w1 ⟨rfl, rfl⟩
  obtain ⟨t0, t1, t2, t3, -⟩ := aT.four
  cases hnm : nameN tnm with
  | false =>
    have HE := Lib.hid (H.out.trans (if_pos hnm))
    go_wp2_with fail
    go_ret
    exact ⟨ret_int HE.out.symm, b3⟩
  | true =>
  have H2 := Lib.hid (H.out.trans (if_neg (by rw [hnm]; simp)))
  clear hnm hN H
  by_cases ho1 : ow < 0
  · have HE := Lib.hid (H2.out.trans (if_pos (by rw [HRO.out]; simp; omega)))
    have g : decide (ow < 0) = true := by simpa using ho1
    clear ho1
    go_wp2_with fail
    go_ret
    exact ⟨ret_int HE.out.symm, b3⟩
  have g1 : decide (ow < 0) = false := by simpa using ho1
  by_cases ho2 : 7 < ow
  · have HE := Lib.hid (H2.out.trans (if_pos (by rw [HRO.out]; simp; omega)))
    have g : decide (7 < ow) = true := by simpa using ho2
    clear ho1 ho2
    go_wp2_with fail
    go_ret
    exact ⟨ret_int HE.out.symm, b3⟩
  have g2 : decide (7 < ow) = false := by simpa using ho2
  have H3 := Lib.hid (H2.out.trans (if_neg (by rw [HRO.out]; simp; omega)))
  clear ho1 ho2 H2 HRO
  by_cases h0 : cn = 0
  · have HE := Lib.hid (H3.out.trans (if_pos h0))
    have g0 : ((cn : Int) == 0) = true := by simp; omega
    clear h0
    go_wp2_with fail
    go_ret
    exact ⟨ret_int HE.out.symm, b3⟩
  have H4 := Lib.hid (H3.out.trans (if_neg h0))
  have g0 : ((cn : Int) == 0) = false := by simp; omega
  have hcpos : 0 < cn := by omega
  clear h0 H3
  by_cases h6 : 6 < cn
  · have HE := Lib.hid (H4.out.trans (if_pos h6))
    have g6 : decide ((6 : Int) < cn) = true := by simp; omega
    clear h6
    go_wp2_with fail
    go_ret
    exact ⟨ret_int HE.out.symm, b3⟩
  have H5 := Lib.hid (H4.out.trans (if_neg h6))
  have g6 : decide ((6 : Int) < cn) = false := by simp; omega
  clear h6 H4
  by_cases h4 : 4 < en
  · have HE := Lib.hid (H5.out.trans (if_pos h4))
    have g4 : decide ((4 : Int) < en) = true := by simp; omega
    clear h4
    go_wp2_with fail
    go_ret
    exact ⟨ret_int HE.out.symm, b3⟩
  have H6 := Lib.hid (H5.out.trans (if_neg h4))
  have g4 : decide ((4 : Int) < en) = false := by simp; omega
  clear h4 H5
  go_wp2_with fail
  go_loopw [46] (fun i wr => ∃ k : Nat, k ≤ cn ∧ i = .int .i64 k ∧ Below W.heap.size W wr ∧ Hid (firstE fc k = 0)) (fun i _ => cn - (intOf i).toNat)
  case atStart => exact ⟨0, by omega, rfl, Below.refl _ _, HE0⟩
  case round =>
    obtain ⟨k, hk, rfl, hbr, HF⟩ := hrel
    clear t0 t1 t2 t3 g0 g1 g2 g4 g6
    have aTr := aT.below hbr aT.lt
    have aSr := aS.below hbr aS.lt
    have hbw := below_in b3 hbr
    by_cases hlt : k < cn
    · obtain ⟨b, off, rfl, hbl, hcell⟩ := hrc.2.2 (by omega)
      have hcl := (hcell k hlt).keep fun i => hbw.cell (p := ⟨b, i, none⟩) hbl
      have hcok : (cols.getD k default).Ok := by
        have hl : k < cols.length := by rw [hrc.1]; exact hlt
        rw [List.getD_eq_getElem?_getD, List.getElem?_eq_getElem hl]
        exact hrc.2.1 _ (List.getElem_mem hl)
      have HBk := HB k
      have HGk := HG k
      have hPk := hPl (cols.getD k default).name
      have hFk := hFd (cols.getD k default).ref
      have HREk := HRE (cols.getD k default)
      have HHk := Lib.hid (HEH.out k HF.out hlt)
      have HNk := Lib.hid (HEN.out k HF.out)
      have hNk := refName_any (cols.getD k default).name hcok.name
      clear HB HG hPl hFd HRE HEH HEN HF hcok hcell hKd HXH HXN HX0 HE0 HKR hwx hrow
      obtain ⟨f, hf⟩ : ∃ f, firstI (fun j => (cols.getD j default).name) (cols.getD k default).name cn = f := ⟨_, rfl⟩
      rw [hf] at HBk HGk
      simp only [hf] at hPk
      clear hf
      generalize cols.getD k default = c at *
      generalize fc k = z at *
      generalize rE c = rr at *
      obtain ⟨nm, kd, nn, un, rf, dl⟩ := c
      simp only at hPk hFk HREk hNk HBk HGk
      obtain ⟨c0, c1, c2, c3, c4, c5⟩ := hcl
      simp only at c0 c1 c2 c3 c4 c5
      have aC := At.fresh wr 54 #[.string ⟨nm.toArray⟩, .int .i64 kd, .bool nn, .bool un, .string ⟨rf.toArray⟩, .int .i64 dl]
      have aT1 := aTr.alloc (.cells #[.string ⟨nm.toArray⟩, .int .i64 kd, .bool nn, .bool un, .string ⟨rf.toArray⟩, .int .i64 dl] 54)
      have aS1 := aSr.alloc (.cells #[.string ⟨nm.toArray⟩, .int .i64 kd, .bool nn, .bool un, .string ⟨rf.toArray⟩, .int .i64 dl] 54)
      have hb1 := hbr.alloc hbr.size (.cells #[.string ⟨nm.toArray⟩, .int .i64 kd, .bool nn, .bool un, .string ⟨rf.toArray⟩, .int .i64 dl] 54)
      have hbw1 := below_in b3 hb1
      have hbad : ∀ h : badC ⟨nm, kd, nn, un, rf, dl⟩ f k, Hid (z = 4) := fun h => HBk.out h
      have HR4 : z = 4 → Hid (gE = 4) := fun h => Lib.hid (H6.out.trans (by rw [HHk.out (by omega), if_neg (by omega)]; exact h))
      have hltr := hbr.size
      have hltT := aTr.lt
      have hltS := aSr.lt
      have hneT := Nat.ne_of_lt aTr.lt
      obtain ⟨t0, t1, t2, t3, -⟩ := aT1.four
      go_wp2_with fail
      refine (hNk _).mono ?_
      rintro e w1 ⟨rfl, rfl⟩
      cases hnm : nameN nm with
      | false =>
        have HE := HR4 (hbad (.inl hnm)).out
        clear hPk hFk
        go_wp2_with fail
        go_ret
        exact ⟨ret_int HE.out.symm, hbw1⟩
      | true =>
      go_wp2_with fail
      refine (hPk _ hbw1).mono ?_
      rintro e w2 ⟨rfl, b2⟩
      have aC2 := aC.below b2 aC.lt
      have aT2 := aT1.below b2 aT1.lt
      have aS2 := aS1.below b2 aS1.lt
      have hb2 := below_in hb1 b2
      have hbw2 := below_in b3 hb2
      clear c0 c1 c2 c3 c4 c5 t0 t1 t2 t3 aC aT1 aS1 hb1 hbw1 b2 hPk hNk
      obtain ⟨c0, c1, c2, c3, c4, c5⟩ := aC2.six
      obtain ⟨t0, t1, t2, t3, -⟩ := aT2.four
      by_cases q1 : f < (k : Int)
      · have HE := HR4 (hbad (.inr (.inl q1))).out
        have g : decide (f < (k : Int)) = true := by simpa using q1
        clear q1
        go_wp2_with fail
        go_ret
        exact ⟨ret_int HE.out.symm, hbw2⟩
      have g1 : decide (f < (k : Int)) = false := by simpa using q1
      by_cases q2 : kd < 1
      · have HE := HR4 (hbad (.inr (.inr (.inl q2)))).out
        have g : decide (kd < 1) = true := by simpa using q2
        clear q1 q2
        go_wp2_with fail
        go_ret
        exact ⟨ret_int HE.out.symm, hbw2⟩
      have g2 : decide (kd < 1) = false := by simpa using q2
      by_cases q3 : 3 < kd
      · have HE := HR4 (hbad (.inr (.inr (.inr (.inl q3))))).out
        have g : decide (3 < kd) = true := by simpa using q3
        clear q1 q2 q3
        go_wp2_with fail
        go_ret
        exact ⟨ret_int HE.out.symm, hbw2⟩
      have g3 : decide (3 < kd) = false := by simpa using q3
      by_cases q4 : dl < 0
      · have HE := HR4 (hbad (.inr (.inr (.inr (.inr (.inl q4)))))).out
        have g : decide (dl < 0) = true := by simpa using q4
        clear q1 q2 q3 q4
        go_wp2_with fail
        go_ret
        exact ⟨ret_int HE.out.symm, hbw2⟩
      have g4 : decide (dl < 0) = false := by simpa using q4
      by_cases q5 : 2 < dl
      · have HE := HR4 (hbad (.inr (.inr (.inr (.inr (.inr (.inl q5))))))).out
        have g : decide (2 < dl) = true := by simpa using q5
        clear q1 q2 q3 q4 q5
        go_wp2_with fail
        go_ret
        exact ⟨ret_int HE.out.symm, hbw2⟩
      have g5 : decide (2 < dl) = false := by simpa using q5
      by_cases q6 : badC ⟨nm, kd, nn, un, rf, dl⟩ f k
      · have HE := HR4 (hbad q6).out
        have q7 : (k = 0 ∧ nn = false) ∨ (k = 0 ∧ un = true) ∨ (k = 0 ∧ rf ≠ []) ∨ (rf = [] ∧ dl ≠ 0) ∨ (dl = 2 ∧ nn = true) := by
          rcases q6 with h | h | h | h | h | h | h
          · rw [hnm] at h; cases h
          · exact absurd h q1
          · exact absurd h q2
          · exact absurd h q3
          · exact absurd h q4
          · exact absurd h q5
          · exact h
        by_cases hk0 : k = 0
        · have e0 : ((k : Int) == 0) = true := by simp; omega
          cases nn with
          | false =>
            clear q6 q7 hk0 hbad HBk HGk HREk
            go_wp2_with fail
            go_ret
            exact ⟨ret_int HE.out.symm, hbw2⟩
          | true =>
            cases un with
            | true =>
              clear q6 q7 hk0 hbad HBk HGk HREk
              go_wp2_with fail
              go_ret
              exact ⟨ret_int HE.out.symm, hbw2⟩
            | false =>
              by_cases hr : rf = []
              · have r1 : (rf.toArray == #[]) = true := by rw [hr]; rfl
                have r2 : rf.isEmpty = true := by rw [hr]; rfl
                have d0 : dl ≠ 0 := by
                  rcases q7 with h | h | h | h | h
                  · cases h.2
                  · cases h.2
                  · exact absurd hr h.2
                  · exact h.2
                  · omega
                have d1 : (dl != 0) = true := by simpa using d0
                clear q6 q7 hk0 hr d0 hbad HBk HGk HREk
                go_wp2_with fail
                go_ret
                exact ⟨ret_int HE.out.symm, hbw2⟩
              · obtain ⟨r1, r2, r3⟩ := empty_forms hr
                clear q6 q7 hk0 hr hbad HBk HGk HREk
                go_wp2_with fail
                go_ret
                exact ⟨ret_int HE.out.symm, hbw2⟩
        · have e0 : ((k : Int) == 0) = false := by simp; omega
          by_cases hr : rf = []
          · have r1 : (rf.toArray == #[]) = true := by rw [hr]; rfl
            have r2 : rf.isEmpty = true := by rw [hr]; rfl
            have d0 : dl ≠ 0 := by
              rcases q7 with h | h | h | h | h
              · exact absurd h.1 hk0
              · exact absurd h.1 hk0
              · exact absurd h.1 hk0
              · exact h.2
              · omega
            have d1 : (dl != 0) = true := by simpa using d0
            clear q6 q7 hk0 hr d0 hbad HBk HGk HREk
            go_wp2_with fail
            go_ret
            exact ⟨ret_int HE.out.symm, hbw2⟩
          · obtain ⟨r1, r2, r3⟩ := empty_forms hr
            have d0 : dl = 2 ∧ nn = true := by
              rcases q7 with h | h | h | h | h
              · exact absurd h.1 hk0
              · exact absurd h.1 hk0
              · exact absurd h.1 hk0
              · exact absurd h.1 hr
              · exact h
            obtain ⟨d0, rfl⟩ := d0
            have d1 : (dl == 2) = true := by simpa using d0
            clear q6 q7 hk0 hr d0 hbad HBk HGk HREk
            go_wp2_with fail
            go_ret
            exact ⟨ret_int HE.out.symm, hbw2⟩
      have HZ := Lib.hid (HGk q6)
      have n7 : ¬ (k = 0 ∧ nn = false) := fun e => q6 (.inr (.inr (.inr (.inr (.inr (.inr (.inl e)))))))
      have n8 : ¬ (k = 0 ∧ un = true) := fun e => q6 (.inr (.inr (.inr (.inr (.inr (.inr (.inr (.inl e))))))))
      have n9 : ¬ (k = 0 ∧ rf ≠ []) := fun e => q6 (.inr (.inr (.inr (.inr (.inr (.inr (.inr (.inr (.inl e)))))))))
      have n10 : ¬ (rf = [] ∧ dl ≠ 0) := fun e => q6 (.inr (.inr (.inr (.inr (.inr (.inr (.inr (.inr (.inr (.inl e))))))))))
      have n11 : ¬ (dl = 2 ∧ nn = true) := fun e => q6 (.inr (.inr (.inr (.inr (.inr (.inr (.inr (.inr (.inr (.inr e))))))))))
      clear q6 q1 q2 q3 q4 q5 hbad HBk HGk
      by_cases hr : rf = []
      · have r1 : (rf.toArray == #[]) = true := by rw [hr]; rfl
        have r2 : rf.isEmpty = true := by rw [hr]; rfl
        have d0 : dl = 0 := by
          by_cases d : dl = 0
          · exact d
          · exact absurd ⟨hr, d⟩ n10
        have HN2 := HNk.out (HZ.out.trans (if_pos hr))
        subst d0
        by_cases hk0 : k = 0
        · have e0 : ((k : Int) == 0) = true := by simp; omega
          have hnn : nn = true := by
            cases nn with
            | true => rfl
            | false => exact absurd ⟨hk0, rfl⟩ n7
          have hun : un = false := by
            cases un with
            | false => rfl
            | true => exact absurd ⟨hk0, rfl⟩ n8
          subst hnn
          subst hun
          clear n7 n8 n9 n10 n11 hk0 hr HREk HZ HHk HNk
          go_wp2_with fail
          exact ⟨⟨k + 1, by omega, by go_num, hb2, HN2⟩, by simp [intOf]; omega⟩
        · have e0 : ((k : Int) == 0) = false := by simp; omega
          clear n7 n8 n9 n10 n11 hk0 hr HREk HZ HHk HNk
          go_wp2_with fail
          exact ⟨⟨k + 1, by omega, by go_num, hb2, HN2⟩, by simp [intOf]; omega⟩
      · have hk0 : ¬ k = 0 := fun e => n9 ⟨e, hr⟩
        have e0 : ((k : Int) == 0) = false := by simp; omega
        obtain ⟨r1, r2, r3⟩ := empty_forms hr
        have g10 : (dl == 2) = false ∨ (dl == 2) = true ∧ nn = false := by
          by_cases d : dl = 2
          · refine .inr ⟨by simpa using d, ?_⟩
            cases nn with
            | false => rfl
            | true => exact absurd ⟨d, rfl⟩ n11
          · exact .inl (by simpa using d)
        have HZ2 := Lib.hid (HZ.out.trans (if_neg hr))
        clear n7 n8 n9 n10 n11 hk0 hr HZ
        rcases g10 with g10 | ⟨g10, rfl⟩
        all_goals
          have hlt2 := aC2.lt
          have hltT2 := aT2.lt
          have hltS2 := aS2.lt
          have m1 := Nat.ne_of_lt aC2.lt
          have m2 := Nat.ne_of_lt aT2.lt
          have m3 := Nat.ne_of_lt aS2.lt
          have s0 : w2.cell? ⟨w.heap.size + 1, 0, none⟩ = some (.int .i64 ver) := aS2.cell 0
          have s1 : w2.cell? ⟨w.heap.size + 1, 1, none⟩ = some (.slice tA tn tcap) := aS2.cell 1
          have s2 : w2.cell? ⟨w.heap.size + 1, 2, none⟩ = some (.slice gA gn gcap) := aS2.cell 2
          have hbX := hb2.alloc hb2.size (.cells #[.string ⟨tnm.toArray⟩, .int .i64 ow, .slice (some ⟨b, off, none⟩) cn ccap, .slice eA en ecap] 32)
          have hbwX := below_in b3 hbX
          by_cases hnm2 : rf = tnm
          · have HR := Lib.hid (HREk.trans (if_pos hnm2))
            have HR2 := Lib.hid (HR.out.trans ((HT0 kd).out.trans (if_neg (by omega))))
            have gn1 : (rf == tnm) = true := by simpa using hnm2
            obtain ⟨b', off', hb'', hlb', hk0c⟩ := hfirst hcpos
            have heq : b = b' ∧ off = off' := by injection hb'' with h; injection h with h1 h2; exact ⟨h1, h2⟩
            obtain ⟨rfl, rfl⟩ := heq
            have hk0c2 := (hbw2.cell (p := ⟨b, off + 1, none⟩) hlb').trans hk0c
            have hlb2 : b < w2.heap.size := Nat.lt_of_lt_of_le hlb' hbw2.size
            have m4 := Nat.ne_of_lt hlb2
            have gcn : (0 : Int) < (cn : Int) := by omega
            clear hnm2 HR HREk hFk hk0c hb'' hT HTE
            by_cases hkk : k0 = kd
            · have HZ3 := HNk.out (HZ2.out.trans (HR2.out.trans (if_pos hkk)))
              have gk : (k0 != kd) = false := by simp [hkk]
              clear hkk HHk HNk HZ2 HR2
              go_wp2_with fail
              go_quiet (fail)
              go_wp2_with fail
              exact ⟨⟨k + 1, by omega, by go_num, below_nq hbX _, HZ3⟩, by simp [intOf]; omega⟩
            · have HZ3 := HZ2.out.trans (HR2.out.trans (if_neg hkk))
              have hfz := HHk.out (by omega)
              have HE : Hid (gE = 9) := Lib.hid (by rw [H6.out, hfz, if_neg (by omega)]; exact HZ3)
              have gk : (k0 != kd) = true := by simp [hkk]
              clear hkk HHk HNk HZ2 HR2 HZ3 hfz
              go_wp2_with fail
              go_quiet (fail)
              go_wp2_with fail
              go_ret
              exact ⟨ret_int HE.out.symm, below_nq hbwX _⟩
          · have HR := Lib.hid (HREk.trans (if_neg hnm2))
            have gn1 : (rf == tnm) = false := by simpa using hnm2
            have hF := hFk _ hbwX
            clear hnm2 HREk hFk hfirst
            have HE8 : ∀ r : Int, r ≠ 0 → rr = r → Hid (gE = r) := fun r h0 h => Lib.hid (H6.out.trans (by
              have hz : z = r := HZ2.out.trans h
              rw [HHk.out (by omega), if_neg (by omega)]; exact hz))
            have hsz2 : (w2.alloc (.cells #[.string ⟨tnm.toArray⟩, .int .i64 ow, .slice (some ⟨b, off, none⟩) cn ccap, .slice eA en ecap] 32)).heap.size = w2.heap.size + 1 := by simp
            have aX := At.fresh w2 32 #[.string ⟨tnm.toArray⟩, .int .i64 ow, .slice (some ⟨b, off, none⟩) cn ccap, .slice eA en ecap]
            have aCX := aC2.alloc (.cells #[.string ⟨tnm.toArray⟩, .int .i64 ow, .slice (some ⟨b, off, none⟩) cn ccap, .slice eA en ecap] 32)
            have aSX := aS2.alloc (.cells #[.string ⟨tnm.toArray⟩, .int .i64 ow, .slice (some ⟨b, off, none⟩) cn ccap, .slice eA en ecap] 32)
            have hwl : w.heap.size ≤ w2.heap.size := hbw2.size
            have hWl : W.heap.size ≤ w2.heap.size := hb2.size
            cases hf : firstAt (fun j => (tab j).name) rf tn with
            | none =>
              rw [first_none hf] at hF
              have HE := HE8 8 (by decide) (HR.out.trans (by rw [hf]))
              clear hf HR
              go_wp2_with fail
              refine hF.mono ?_
              rintro e w3 ⟨rfl, b3'⟩
              go_wp2_with fail
              go_ret
              exact ⟨ret_int HE.out.symm, below_in hbwX b3'⟩
            | some i =>
              have hi := firstAt_some hf
              have hfi : firstI (fun j => (tab j).name) rf tn = (i : Int) := by unfold firstI; rw [hf]
              have HR3 : rr = tgtE (tab i) kd := HR.out.trans (by rw [hf])
              rw [hfi] at hF
              obtain ⟨tb, toff, rfl, htl, htc⟩ := hT (by omega)
              obtain ⟨htcl, htin⟩ := htc i hi.1
              have hii : (i : Int) < (tn : Int) := by omega
              have hin : i < tn := hi.1
              have hneg : decide ((i : Int) < 0) = false := by simp
              have HR4 := Lib.hid (HR3.trans (HTE (tab i) kd).out)
              generalize tab i = o at *
              clear hf hfi htc hT hi HR HR3 HTE
              go_wp2_with fail
              refine hF.mono ?_
              rintro e w3 ⟨rfl, b3'⟩
              have hb3 := below_in hbX b3'
              have hbw3 := below_in hbwX b3'
              obtain ⟨o0, o1, o2, o3⟩ := htcl.keep fun j => hbw3.cell (p := ⟨tb, j, none⟩) htl
              obtain ⟨x0, x1, x2, x3, z0, z1, z2, z3⟩ := (aX.below b3' aX.lt).four
              obtain ⟨d0, d1, d2, d3, d4, d5⟩ := (aCX.below b3' aCX.lt).six
              have u1 : w3.cell? ⟨w.heap.size + 1, 1, none⟩ = some (.slice (some ⟨tb, toff, none⟩) tn tcap) := (aSX.below b3' aSX.lt).cell 1
              have htl2 : tb < w2.heap.size := Nat.lt_of_lt_of_le htl hwl
              have m5 := Nat.ne_of_lt htl2
              have b4 := fun x y z p => below_set4 (g := w2.heap.size) hbw3 hwl x y z p
              have b4' := fun x y z p => below_set4 (g := w2.heap.size) hb3 hWl x y z p
              clear hF aX aCX aSX c0 c1 c2 c3 c4 c5 s0 s1 s2 b3' aC2 aS2 aT2 t0 t1 t2 t3
              by_cases ho0 : o.cn = 0
              · have HE := HE8 8 (by decide) (HR4.out.trans (if_pos ho0))
                have go0 : (((o.cn : Nat) : Int) == 0) = true := by simp; omega
                clear ho0 HR4
                go_wp2_with fail
                go_ret
                exact ⟨ret_int HE.out.symm, hbw3⟩
              · have HR5 := Lib.hid (HR4.out.trans (if_neg ho0))
                have go0 : (((o.cn : Nat) : Int) == 0) = false := by simp; omega
                have gpos : (0 : Int) < (o.cn : Int) := by omega
                obtain ⟨b', off', hoA, hlb', oc1, ox0, oc0⟩ := htin.cols.first (by omega)
                have oc1' := (hbw3.cell (p := ⟨b', off' + 1, none⟩) hlb').trans oc1
                have hlb2 : b' < w2.heap.size := Nat.lt_of_lt_of_le hlb' hwl
                have m6 := Nat.ne_of_lt hlb2
                have HK : Hid (kind0 o = (o.cols.getD 0 default).kind) := rfl
                generalize (o.cols.getD 0 default).kind = ko at *
                rw [hoA] at o2
                clear ho0 HR4 htin htcl oc1 hoA oc0
                by_cases hkk : ko = kd
                · have HZ3 := HNk.out (HZ2.out.trans (HR5.out.trans (by rw [HK.out, if_pos hkk])))
                  have gk : (ko != kd) = false := by simp [hkk]
                  clear hkk HHk HNk HZ2 HR5 HE8 HK
                  go_wp2_with fail
                  go_quiet (fail)
                  go_wp2_with fail
                  exact ⟨⟨k + 1, by omega, by go_num, below_nq (b4' _ _ _ _) _, HZ3⟩, by simp [intOf]; omega⟩
                · have HE := HE8 9 (by decide) (HR5.out.trans (by rw [HK.out, if_neg hkk]))
                  have gk : (ko != kd) = true := by simp [hkk]
                  clear hkk HHk HNk HZ2 HR5 HE8 HK
                  go_wp2_with fail
                  go_quiet (fail)
                  go_wp2_with fail
                  go_ret
                  exact ⟨ret_int HE.out.symm, below_nq (b4 _ _ _ _) _⟩
    · obtain rfl : k = cn := by omega
      have H7 := Lib.hid (H6.out.trans (if_pos HF.out))
      have hks := HKR.out HF.out
      clear hPl hFd HRE HTE HT0 HEH HEN HB HG hfirst hrc hT HKR HF HE0
      obtain ⟨t0, t1, t2, t3, -⟩ := aTr.four
      generalize cols.map (·.kind) = ks at *
      go_wp2_with fail
      go_loopw [168] (fun i wx => ∃ k' : Nat, k' ≤ en ∧ i = .int .i64 k' ∧ Below wr.heap.size wr wx ∧ Hid (firstE (fun j => chkE ks (chk j)) k' = 0)) (fun i _ => en - (intOf i).toNat)
      case atStart => exact ⟨0, by omega, rfl, Below.refl _ _, HX0⟩
      case round =>
        obtain ⟨k', hk', rfl, hbx, HF⟩ := hrel
        clear t0 t1 t2 t3
        have aTx := aTr.below hbx aTr.lt
        obtain ⟨t0, t1, t2, t3, -⟩ := aTx.four
        have hne := Nat.ne_of_lt aTx.lt
        have hltx := aTx.lt
        have hbwx := below_in hbw hbx
        by_cases hlt' : k' < en
        · obtain ⟨b, off, rfl, hbl, hcell⟩ := hrow (by omega)
          obtain ⟨hcl, hin⟩ := hcell k' hlt'
          obtain ⟨x0, x1, x2, x3, x4, x5⟩ := hcl.keep fun i => hbwx.cell (p := ⟨b, i, none⟩) hbl
          have HH := Lib.hid (HXH.out k' HF.out hlt')
          have HN := Lib.hid (HXN.out k' HF.out)
          have hbwy := hbwx.alloc hbwx.size (.cells #[.int .i64 (chk k').op, .int .i64 (chk k').col, .int .i64 (chk k').v.kind, .int .i64 (chk k').v.num, .string ⟨(chk k').v.text.toArray⟩, .slice (chk k').A (chk k').n (chk k').cap] 67)
          have hc := hKd (chk k') _ (hin.below hbwy) (hwx k' hlt') hks hbwy
          have hcin := hKd (chk k') _ hin (hwx k' hlt') hks (Below.refl _ _)
          have hbxy := hbx.alloc hbx.size (.cells #[.int .i64 (chk k').op, .int .i64 (chk k').col, .int .i64 (chk k').v.kind, .int .i64 (chk k').v.num, .string ⟨(chk k').v.text.toArray⟩, .slice (chk k').A (chk k').n (chk k').cap] 67)
          have HC : Hid (chkE ks (chk k') = match kindL ks (chk k') with | .error r => r | .ok k => if k = 1 ∨ k = 0 then 0 else 9) := rfl
          have herr := @kindL_err ks (chk k')
          have hrg := fun k => @kindL_rng ks hks (chk k') k
          obtain ⟨z, hz⟩ : ∃ z, chkE ks (chk k') = z := ⟨_, rfl⟩
          rw [hz] at HH HN HC
          generalize kindL ks (chk k') = q at *
          unfold Ex.val at hc
          clear hz hKd hrow HXH HXN HX0 HF hcell hin hcl hcin hwx
          go_wp2_with fail
          refine hc.mono ?_
          rintro e w2 ⟨rfl, b2⟩
          have hfin := below_in hbxy b2
          have hfin2 := below_in hbwy b2
          cases q with
          | error r =>
            have hr := herr rfl
            have hz : z = r := HC.out
            have HEE := Lib.hid (H7.out.trans (HH.out (by omega)))
            subst hz
            have e0 : (z != 0) = true := by simpa using hr
            clear hr HH HN HC herr hrg H7
            simp only [kqT]
            go_wp2_with fail
            go_ret
            exact ⟨ret_int HEE.out.symm, hfin2⟩
          | ok kk =>
            have hr := hrg kk rfl
            simp only [kqT]
            by_cases h1 : kk = 1 ∨ kk = 0
            · have hz : z = 0 := HC.out.trans (if_pos h1)
              have HNN := HN.out hz
              have g : decide ((1 : Int) < kk) = false := by simp; omega
              clear HH HN HC herr hrg H7 hr h1 hz
              go_wp2_with fail
              exact ⟨⟨k' + 1, by omega, by go_num, hfin, HNN⟩, by simp [intOf]; omega⟩
            · have hz : z = 9 := HC.out.trans (if_neg h1)
              have HEE := Lib.hid (H7.out.trans ((HH.out (by omega)).trans hz))
              have g : decide ((1 : Int) < kk) = true := by simp; omega
              clear HH HN HC herr hrg H7 hr h1 hz
              go_wp2_with fail
              go_ret
              exact ⟨ret_int HEE.out.symm, hfin2⟩
        · obtain rfl : k' = en := by omega
          have HEE := Lib.hid (H7.out.trans HF.out)
          clear H7 hKd hrow HXH HXN HX0 HF
          go_wp2_with fail
          go_ret
          exact ⟨ret_int HEE.out.symm, hbwx⟩
end Go.Proofs.YtnhalfdddcjicaaGreat
