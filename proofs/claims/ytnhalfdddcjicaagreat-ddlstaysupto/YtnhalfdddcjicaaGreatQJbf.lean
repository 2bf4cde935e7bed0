/- The walks of ddl's and the reference's Whole. -/
/- What is whole stays so. -/
import Derived.Test.YtnhalfdddcjicaaGreatQJbh
import Derived.Test.YtnhalfdddcjicaaGreatQScX
import Derived.Test.YtnhalfdddcjicaaGreatQJat
namespace Go.Proofs.YtnhalfdddcjicaaGreat
open Go.RowKit

/-- The tables ahead of one. -/
def headS (s : Sc) (i : Nat) : Sc := ⟨0, s.tA, i, s.tcap, s.tab, none, 0, 0, []⟩
theorem in_head {w : World} {s : Sc} (h : InS w s) {i : Nat} (hi : i ≤ s.tn) : InS w (headS s i) := by
  refine ⟨by show I64 0; unfold I64; decide, Nat.le_trans hi h.tmax, by show 0 ≤ maxLen; unfold maxLen; decide, fun hn => ?_, rfl, (fun c hc => by cases hc), fun h0 => absurd (show 0 < 0 from h0) (by decide)⟩
  have hn : 0 < i := hn
  obtain ⟨b, off, e1, e2, e3⟩ := h.tabs (by omega)
  exact ⟨b, off, e1, e2, fun j hj => e3 j (Nat.lt_of_lt_of_le hj hi)⟩
def WhT (s : Sc) (i : Nat) : Prop := tabAt (headS s i) (s.tab i).name = none ∧ goodE (s.tab i) (headS s i) = 0
def WhG (s : Sc) (g : Gr) : Prop := tabAt s g.table ≠ none
def WholeS (s : Sc) : Prop := 0 ≤ s.ver ∧ s.tn ≤ 12 ∧ SortedG s.grants ∧ (∀ i, i < s.tn → WhT s i) ∧ ∀ i, i < s.gn → WhG s (s.grants.getD i default)
def IsWh (s : Sc) (e : Ending) : Prop := ∃ B : Bool, e = .returned (.bool B) ∧ (B = true ↔ WholeS s)
theorem wh_no {s : Sc} (h : ¬ WholeS s) : IsWh s (.returned (.bool false)) := ⟨false, rfl, by simp [h]⟩
theorem wh_yes {s : Sc} (h : WholeS s) : IsWh s (.returned (.bool true)) := ⟨true, rfl, by simp [h]⟩
def optI (o : Option Nat) : Int := match o with | some j => (j : Int) | none => -1
theorem place_opt (s : Sc) (x : List UInt8) : placeI s x = optI (tabAt s x) := by unfold placeI optI; cases tabAt s x <;> rfl
theorem rplace_any (s : Sc) (x : List UInt8) (w : World) (hs : InS w s) :
    Calls Tryz.prog 26 #[s.val, .string ⟨x.toArray⟩] w fun e w' => e = .returned (.int .i64 (placeI s x)) ∧ Below w.heap.size w w' := refFind_any s x w hs

set_option maxRecDepth 100000 in
set_option maxHeartbeats 6400000 in
theorem dwhole_any (s : Sc) (w : World) (hs : InS w s) (hw : wtS s ≤ 1048579) (_hgc : s.gn ≤ s.gcap) (htc : s.tn ≤ s.tcap) :
    Calls Tryz.prog 15 #[s.val] w fun e w' => IsWh s e ∧ Below w.heap.size w w' := by
  have b0 := below_box w (.cells #[.int .i64 s.ver, .slice s.tA s.tn s.tcap, .slice s.gA s.gn s.gcap] 25)
  have aS := At.fresh w 25 #[.int .i64 s.ver, .slice s.tA s.tn s.tcap, .slice s.gA s.gn s.gcap]
  have htw := tn_wt s
  have hgm : s.gn ≤ 4194304 := by omega
  clear htw
  have hSo := fun w1 (b : Below w.heap.size w w1) => gsorted_any s.gA s.gn s.gcap s.grants w1 (hs.below b).grants hs.gmax
  have hPl := fun x w1 (b : Below w.heap.size w w1) => dplace_any s x w1 (hs.below b)
  have hPh := fun i (hi : i ≤ s.tn) x w1 (b : Below w.heap.size w w1) => dplace_any (headS s i) x w1 (in_head (hs.below b) hi)
  have hGo := fun i (hi : i < s.tn) w1 (b : Below w.heap.size w w1) => tgood_any (s.tab i) (headS s i) w1 (in_tab (hs.below b) hi) (in_head (hs.below b) (Nat.le_of_lt hi))
  have hT := hs.tabs
  have hG := hs.grants
  have HY : Hid ((0 ≤ s.ver ∧ s.tn ≤ 12 ∧ SortedG s.grants ∧ (∀ i, i < s.tn → WhT s i) ∧ ∀ i, i < s.gn → WhG s (s.grants.getD i default)) → IsWh s (.returned (.bool true))) := by
    show _ → _
    exact fun h => wh_yes h
  have HN : Hid (¬ (0 ≤ s.ver ∧ s.tn ≤ 12 ∧ SortedG s.grants ∧ (∀ i, i < s.tn → WhT s i) ∧ ∀ i, i < s.gn → WhG s (s.grants.getD i default)) → IsWh s (.returned (.bool false))) := by
    show _ → _
    exact fun h => wh_no h
  obtain ⟨D, hD⟩ : ∃ D, decide (SortedG s.grants) = D := ⟨_, rfl⟩
  rw [hD] at hSo
  have HD := Lib.hid hD
  clear hD hs hw
  unfold Sc.val at hPl hPh hGo ⊢
  simp only [headS] at hPh hGo
  obtain ⟨s0, s1, s2⟩ := aS.tri0
  by_cases hv : s.ver < 0
  · have HR := Lib.hid (HN.out (fun h => by have := h.1; omega))
    clear HY HN
    go_enter Tryz.func15, Tryz.ntmps15
    go_wp2_with fail
    go_ret
    exact ⟨HR.out, b0⟩
  by_cases h12 : (12 : Int) < (s.tn : Int)
  · have HR := Lib.hid (HN.out (fun h => by have := h.2.1; omega))
    clear HY HN
    go_enter Tryz.func15, Tryz.ntmps15
    go_wp2_with fail
    go_ret
    exact ⟨HR.out, b0⟩
  go_enter Tryz.func15, Tryz.ntmps15
  go_wp2_with fail
  refine (hSo _ b0).mono ?_
  rintro e w1 ⟨rfl, k1⟩
  have b1 := below_in b0 k1
  have aS1 := aS.below k1 aS.lt
  clear hSo aS s0 s1 s2 b0 k1
  obtain ⟨s0, s1, s2⟩ := aS1.tri0
  cases D with
  | false =>
    have HR := Lib.hid (HN.out (fun h => by have := HD.out; rw [decide_eq_true h.2.2.1] at this; cases this))
    clear HY HN HD
    go_wp2_with fail
    go_ret
    exact ⟨HR.out, b1⟩
  | true =>
    have HS : Hid (SortedG s.grants) := Lib.hid (of_decide_eq_true HD.out)
    have hn12 : s.tn ≤ 12 := by omega
    clear HD
    go_wp2_with fail
    go_loopw [26] (fun iv wr => ∃ (k : Nat), k ≤ s.tn ∧ iv = .int .i64 k ∧ Hid (∀ i, i < k → WhT s i) ∧ At wr w.heap.size 25 #[.int .i64 s.ver, .slice s.tA s.tn s.tcap, .slice s.gA s.gn s.gcap] ∧ Below w.heap.size w wr) (fun iv _ => s.tn - (intOf iv).toNat)
    case atStart => exact ⟨0, by omega, rfl, show ∀ _, _ from fun i h => by omega, aS1, b1⟩
    case round =>
      clear aS1 b1 s0 s1 s2
      obtain ⟨k, hk, rfl, HW, aSr, br⟩ := hrel
      obtain ⟨s0, s1, s2⟩ := aSr.tri0
      by_cases hlt : k < s.tn
      · obtain ⟨bb, off, htA, hbl, hcell⟩ := hT (by omega)
        obtain ⟨c0, c1, c2, c3⟩ := (hcell k hlt).1.keep fun i => br.cell (p := ⟨bb, i, none⟩) hbl
        have hPk := hPh k (by omega) (s.tab k).name
        have hGk := hGo k hlt
        obtain ⟨pl, hpl⟩ : ∃ pl, tabAt (headS s k) (s.tab k).name = pl := ⟨_, rfl⟩
        obtain ⟨gd, hgd⟩ : ∃ gd, goodE (s.tab k) (headS s k) = gd := ⟨_, rfl⟩
        have hWk : Hid (WhT s k ↔ pl = none ∧ gd = 0) := by show _ ↔ _; unfold WhT; rw [hpl, hgd]
        have hpi : placeI ⟨0, s.tA, k, s.tcap, s.tab, none, 0, 0, []⟩ (s.tab k).name = optI pl := by rw [← hpl]; exact place_opt (headS s k) _
        have hge : goodE (s.tab k) ⟨0, s.tA, k, s.tcap, s.tab, none, 0, 0, []⟩ = gd := hgd
        rw [hpi] at hPk
        rw [hge] at hGk
        have hki : (k : Int) < (s.tn : Int) := by omega
        have hkc : (k : Int) ≤ (s.tcap : Int) := by omega
        have hk0 : (0 : Int) ≤ (k : Int) := by omega
        rw [htA] at hPk hGk aSr s1 ⊢
        have HTA := Lib.hid htA
        clear hpl hgd hpi hge hcell hT htA hPh hGo
        generalize s.tab k = t at *
        unfold Tb.val at hGk
        have hb0 := below_box wr (.cells #[.string ⟨t.name.toArray⟩, .int .i64 t.owner, .slice t.cA t.cn t.ccap, .slice t.eA t.en t.ecap] 32)
        have bT := below_in br hb0
        have aST := aSr.below hb0 aSr.lt
        have aTT := At.fresh wr 32 #[.string ⟨t.name.toArray⟩, .int .i64 t.owner, .slice t.cA t.cn t.ccap, .slice t.eA t.en t.ecap]
        have hb1 := below_box (wr.alloc (.cells #[.string ⟨t.name.toArray⟩, .int .i64 t.owner, .slice t.cA t.cn t.ccap, .slice t.eA t.en t.ecap] 32)) (.cells #[.int .i64 0, .slice (some ⟨bb, off, none⟩) k s.tcap, .slice none 0 0] 25)
        have aHH := At.fresh (wr.alloc (.cells #[.string ⟨t.name.toArray⟩, .int .i64 t.owner, .slice t.cA t.cn t.ccap, .slice t.eA t.en t.ecap] 32)) 25 #[.int .i64 0, .slice (some ⟨bb, off, none⟩) k s.tcap, .slice none 0 0]
        have bH := below_in bT hb1
        have aSH := aST.below hb1 aST.lt
        have aTH := aTT.below hb1 aTT.lt
        obtain ⟨d0, d1, d2⟩ := aST.tri0
        obtain ⟨t0, t1, t2, t3, -⟩ := aTH.four
        obtain ⟨h0, h1, h2⟩ := aHH.tri0
        simp only [World.size_alloc] at h0 h1 h2 aHH
        clear aTT hb0 hb1
        go_wp2_with fail
        refine (hPk _ bH).mono ?_
        rintro e w2 ⟨rfl, k2⟩
        have b2 := below_in bH k2
        have aS2 := aSH.below k2 aSH.lt
        have aT2 := aTH.below k2 aTH.lt
        have aH2 := aHH.below k2 aHH.lt
        clear t0 t1 t2 t3 h0 h1 h2 d0 d1 d2 s0 s1 s2 hPk aST
        obtain ⟨t0, t1, t2, t3, -⟩ := aT2.four
        obtain ⟨h0, h1, h2⟩ := aH2.tri0
        cases pl with
        | some j =>
          have hj : (0 : Int) ≤ (j : Int) := by omega
          have HR := Lib.hid (HN.out (fun h => by have := (hWk.out.1 (h.2.2.2.1 k hlt)).1; cases this))
          clear HY HN
          unfold optI
          simp only
          go_wp2_with fail
          go_ret
          exact ⟨HR.out, b2⟩
        | none =>
          unfold optI
          simp only
          go_wp2_with fail
          refine (hGk _ b2).mono ?_
          rintro e w3 ⟨rfl, k3⟩
          have b3 := below_in b2 k3
          have aS3 := aS2.below k3 aS2.lt
          clear t0 t1 t2 t3 h0 h1 h2 hGk
          by_cases hg0 : gd = 0
          · subst hg0
            have HW2 : Hid (∀ i, i < k + 1 → WhT s i) := by
              show ∀ _, _
              intro i hi
              rcases Nat.lt_succ_iff_lt_or_eq.1 hi with h | rfl
              · exact HW.out i h
              · exact hWk.out.2 (by simp)
            go_wp2_with fail
            exact ⟨⟨k + 1, by omega, by go_num, HW2, by first | exact aS3 | (rw [HTA.out]; exact aS3), b3⟩, by simp [intOf]; omega⟩
          · have hgn : (gd != 0) = true := by simpa using hg0
            have HR := Lib.hid (HN.out (fun h => hg0 (hWk.out.1 (h.2.2.2.1 k hlt)).2))
            clear HY HN
            go_wp2_with fail
            go_ret
            exact ⟨HR.out, b3⟩
      · obtain rfl : k = s.tn := by omega
        clear hPh hGo hT
        go_wp2_with fail
        go_loopw [51] (fun iv wr => ∃ (k : Nat), k ≤ s.gn ∧ iv = .int .i64 k ∧ Hid (∀ i, i < k → WhG s (s.grants.getD i default)) ∧ At wr w.heap.size 25 #[.int .i64 s.ver, .slice s.tA s.tn s.tcap, .slice s.gA s.gn s.gcap] ∧ Below w.heap.size w wr) (fun iv _ => s.gn - (intOf iv).toNat)
        case atStart => exact ⟨0, by omega, rfl, show ∀ _, _ from fun i h => by omega, aSr, br⟩
        case round =>
          clear aSr br s0 s1 s2
          obtain ⟨k, hk, rfl, HW3, aSr, br⟩ := hrel
          obtain ⟨s0, s1, s2⟩ := aSr.tri0
          by_cases hlt : k < s.gn
          · obtain ⟨bb, off, hgA, hbl, hcell⟩ := hG.2.2 (by omega)
            obtain ⟨c0, c1, c2⟩ := (hcell k hlt).keep fun i => br.cell (p := ⟨bb, i, none⟩) hbl
            have hki : (k : Int) < (s.gn : Int) := by omega
            have hPk := hPl (s.grants.getD k default).table
            rw [place_opt] at hPk
            obtain ⟨pl, hpl⟩ : ∃ pl, tabAt s (s.grants.getD k default).table = pl := ⟨_, rfl⟩
            have hWk : Hid (WhG s (s.grants.getD k default) ↔ pl ≠ none) := by show _ ↔ _; unfold WhG; rw [hpl]
            rw [hpl] at hPk
            rw [hgA] at hPk aSr s2 ⊢
            have HGA := Lib.hid hgA
            clear hpl hcell hG hgA hPl
            obtain ⟨g, hg⟩ : ∃ g, s.grants.getD k default = g := ⟨_, rfl⟩
            rw [hg] at hPk c0 c1 c2
            clear hg
            have hb0 := below_box wr (.cells #[.int .i64 g.role, .string ⟨g.table.toArray⟩, .int .i64 g.bits] 50)
            have bT := below_in br hb0
            have aST := aSr.below hb0 aSr.lt
            have aTT := At.fresh wr 50 #[.int .i64 g.role, .string ⟨g.table.toArray⟩, .int .i64 g.bits]
            obtain ⟨d0, d1, d2⟩ := aST.tri0
            obtain ⟨t0, t1, t2⟩ := aTT.tri0
            clear aTT hb0
            go_wp2_with fail
            refine (hPk _ bT).mono ?_
            rintro e w2 ⟨rfl, k2⟩
            have b2 := below_in bT k2
            have aS2 := aST.below k2 aST.lt
            clear t0 t1 t2 d0 d1 d2 s0 s1 s2 hPk
            cases pl with
            | none =>
              have HR := Lib.hid (HN.out (fun h => (hWk.out.1 (h.2.2.2.2 k hlt)) rfl))
              clear HY HN
              unfold optI
              simp only
              go_wp2_with fail
              go_ret
              exact ⟨HR.out, b2⟩
            | some j =>
              have hj : ¬ (j : Int) < 0 := by omega
              have HW4 : Hid (∀ i, i < k + 1 → WhG s (s.grants.getD i default)) := by
                show ∀ _, _
                intro i hi
                rcases Nat.lt_succ_iff_lt_or_eq.1 hi with h | rfl
                · exact HW3.out i h
                · exact hWk.out.2 (by simp)
              unfold optI
              simp only
              go_wp2_with fail
              exact ⟨⟨k + 1, by omega, by go_num, HW4, by first | exact aS2 | (rw [HGA.out]; exact aS2), b2⟩, by simp [intOf]; omega⟩
          · obtain rfl : k = s.gn := by omega
            have HR := Lib.hid (HY.out ⟨by omega, hn12, HS.out, HW.out, HW3.out⟩)
            clear HY HN
            go_wp2_with fail
            go_ret
            exact ⟨HR.out, br⟩
set_option maxRecDepth 100000 in
set_option maxHeartbeats 6400000 in
theorem rwhole_any (s : Sc) (w : World) (hs : InS w s) (hw : wtS s ≤ 1048579) (hgc : s.gn ≤ s.gcap) (htc : s.tn ≤ s.tcap) :
    Calls Tryz.prog 14 #[s.val] w fun e w' => IsWh s e ∧ Below w.heap.size w w' := by
  have b0 := below_box w (.cells #[.int .i64 s.ver, .slice s.tA s.tn s.tcap, .slice s.gA s.gn s.gcap] 25)
  have aS := At.fresh w 25 #[.int .i64 s.ver, .slice s.tA s.tn s.tcap, .slice s.gA s.gn s.gcap]
  have htw := tn_wt s
  have hgm : s.gn ≤ 4194304 := by omega
  clear htw
  have hwi : ∀ i, i < s.tn → wtT (s.tab i) ≤ 1048576 := fun i hi => by
    have : wtT (s.tab i) ≤ sumN s.tn fun j => wtT (s.tab j) := sumN_at (fun j => wtT (s.tab j)) hi
    unfold wtS at hw
    omega
  have hSo := fun w1 (b : Below w.heap.size w w1) => rsorted_any s.gA s.gn s.gcap s.grants w1 (hs.below b).grants hs.gmax hgc
  have hPl := fun x w1 (b : Below w.heap.size w w1) => rplace_any s x w1 (hs.below b)
  have hPh := fun i (hi : i ≤ s.tn) x w1 (b : Below w.heap.size w w1) => rplace_any (headS s i) x w1 (in_head (hs.below b) hi)
  have hGo := fun i (hi : i < s.tn) w1 (b : Below w.heap.size w w1) => rgoodT_any (s.tab i) (headS s i) w1 (in_tab (hs.below b) hi) (in_head (hs.below b) (Nat.le_of_lt hi)) (hwi i hi)
  have hT := hs.tabs
  have hG := hs.grants
  have HY : Hid ((0 ≤ s.ver ∧ s.tn ≤ 12 ∧ SortedG s.grants ∧ (∀ i, i < s.tn → WhT s i) ∧ ∀ i, i < s.gn → WhG s (s.grants.getD i default)) → IsWh s (.returned (.bool true))) := by
    show _ → _
    exact fun h => wh_yes h
  have HN : Hid (¬ (0 ≤ s.ver ∧ s.tn ≤ 12 ∧ SortedG s.grants ∧ (∀ i, i < s.tn → WhT s i) ∧ ∀ i, i < s.gn → WhG s (s.grants.getD i default)) → IsWh s (.returned (.bool false))) := by
    show _ → _
    exact fun h => wh_no h
  obtain ⟨D, hD⟩ : ∃ D, decide (SortedG s.grants) = D := ⟨_, rfl⟩
  rw [hD] at hSo
  have HD := Lib.hid hD
  clear hD hs hw hwi
  unfold Sc.val at hPl hPh hGo ⊢
  simp only [headS] at hPh hGo
  obtain ⟨s0, s1, s2⟩ := aS.tri0
  by_cases hv : s.ver < 0
  · have HR := Lib.hid (HN.out (fun h => by have := h.1; omega))
    clear HY HN
    go_enter Tryz.func14, Tryz.ntmps14
    go_wp2_with fail
    go_ret
    exact ⟨HR.out, b0⟩
  by_cases h12 : (12 : Int) < (s.tn : Int)
  · have HR := Lib.hid (HN.out (fun h => by have := h.2.1; omega))
    clear HY HN
    go_enter Tryz.func14, Tryz.ntmps14
    go_wp2_with fail
    go_ret
    exact ⟨HR.out, b0⟩
  go_enter Tryz.func14, Tryz.ntmps14
  go_wp2_with fail
  refine (hSo _ b0).mono ?_
  rintro e w1 ⟨rfl, k1⟩
  have b1 := below_in b0 k1
  have aS1 := aS.below k1 aS.lt
  clear hSo aS s0 s1 s2 b0 k1
  obtain ⟨s0, s1, s2⟩ := aS1.tri0
  cases D with
  | false =>
    have HR := Lib.hid (HN.out (fun h => by have := HD.out; rw [decide_eq_true h.2.2.1] at this; cases this))
    clear HY HN HD
    go_wp2_with fail
    go_ret
    exact ⟨HR.out, b1⟩
  | true =>
    have HS : Hid (SortedG s.grants) := Lib.hid (of_decide_eq_true HD.out)
    have hn12 : s.tn ≤ 12 := by omega
    clear HD
    go_wp2_with fail
    go_loopw [26] (fun iv wr => ∃ (k : Nat), k ≤ s.tn ∧ iv = .int .i64 k ∧ Hid (∀ i, i < k → WhT s i) ∧ At wr w.heap.size 25 #[.int .i64 s.ver, .slice s.tA s.tn s.tcap, .slice s.gA s.gn s.gcap] ∧ Below w.heap.size w wr) (fun iv _ => s.tn - (intOf iv).toNat)
    case atStart => exact ⟨0, by omega, rfl, show ∀ _, _ from fun i h => by omega, aS1, b1⟩
    case round =>
      clear aS1 b1 s0 s1 s2
      obtain ⟨k, hk, rfl, HW, aSr, br⟩ := hrel
      obtain ⟨s0, s1, s2⟩ := aSr.tri0
      by_cases hlt : k < s.tn
      · obtain ⟨bb, off, htA, hbl, hcell⟩ := hT (by omega)
        obtain ⟨c0, c1, c2, c3⟩ := (hcell k hlt).1.keep fun i => br.cell (p := ⟨bb, i, none⟩) hbl
        have hPk := hPh k (by omega) (s.tab k).name
        have hGk := hGo k hlt
        obtain ⟨pl, hpl⟩ : ∃ pl, tabAt (headS s k) (s.tab k).name = pl := ⟨_, rfl⟩
        obtain ⟨gd, hgd⟩ : ∃ gd, goodE (s.tab k) (headS s k) = gd := ⟨_, rfl⟩
        have hWk : Hid (WhT s k ↔ pl = none ∧ gd = 0) := by show _ ↔ _; unfold WhT; rw [hpl, hgd]
        have hpi : placeI ⟨0, s.tA, k, s.tcap, s.tab, none, 0, 0, []⟩ (s.tab k).name = optI pl := by rw [← hpl]; exact place_opt (headS s k) _
        have hge : goodE (s.tab k) ⟨0, s.tA, k, s.tcap, s.tab, none, 0, 0, []⟩ = gd := hgd
        rw [hpi] at hPk
        rw [hge] at hGk
        have hki : (k : Int) < (s.tn : Int) := by omega
        have hkc : (k : Int) ≤ (s.tcap : Int) := by omega
        have hk0 : (0 : Int) ≤ (k : Int) := by omega
        rw [htA] at hPk hGk aSr s1 ⊢
        have HTA := Lib.hid htA
        clear hpl hgd hpi hge hcell hT htA hPh hGo
        generalize s.tab k = t at *
        unfold Tb.val at hGk
        have hb0 := below_box wr (.cells #[.string ⟨t.name.toArray⟩, .int .i64 t.owner, .slice t.cA t.cn t.ccap, .slice t.eA t.en t.ecap] 32)
        have bT := below_in br hb0
        have aST := aSr.below hb0 aSr.lt
        have aTT := At.fresh wr 32 #[.string ⟨t.name.toArray⟩, .int .i64 t.owner, .slice t.cA t.cn t.ccap, .slice t.eA t.en t.ecap]
        have hb1 := below_box (wr.alloc (.cells #[.string ⟨t.name.toArray⟩, .int .i64 t.owner, .slice t.cA t.cn t.ccap, .slice t.eA t.en t.ecap] 32)) (.cells #[.int .i64 0, .slice (some ⟨bb, off, none⟩) k s.tcap, .slice none 0 0] 25)
        have aHH := At.fresh (wr.alloc (.cells #[.string ⟨t.name.toArray⟩, .int .i64 t.owner, .slice t.cA t.cn t.ccap, .slice t.eA t.en t.ecap] 32)) 25 #[.int .i64 0, .slice (some ⟨bb, off, none⟩) k s.tcap, .slice none 0 0]
        have bH := below_in bT hb1
        have aSH := aST.below hb1 aST.lt
        have aTH := aTT.below hb1 aTT.lt
        obtain ⟨d0, d1, d2⟩ := aST.tri0
        obtain ⟨t0, t1, t2, t3, -⟩ := aTH.four
        obtain ⟨h0, h1, h2⟩ := aHH.tri0
        simp only [World.size_alloc] at h0 h1 h2 aHH
        clear aTT hb0 hb1
        go_wp2_with fail
        refine (hPk _ bH).mono ?_
        rintro e w2 ⟨rfl, k2⟩
        have b2 := below_in bH k2
        have aS2 := aSH.below k2 aSH.lt
        have aT2 := aTH.below k2 aTH.lt
        have aH2 := aHH.below k2 aHH.lt
        clear t0 t1 t2 t3 h0 h1 h2 d0 d1 d2 s0 s1 s2 hPk aST
        obtain ⟨t0, t1, t2, t3, -⟩ := aT2.four
        obtain ⟨h0, h1, h2⟩ := aH2.tri0
        cases pl with
        | some j =>
          have hj : (0 : Int) ≤ (j : Int) := by omega
          have HR := Lib.hid (HN.out (fun h => by have := (hWk.out.1 (h.2.2.2.1 k hlt)).1; cases this))
          clear HY HN
          unfold optI
          simp only
          go_wp2_with fail
          go_ret
          exact ⟨HR.out, b2⟩
        | none =>
          unfold optI
          simp only
          go_wp2_with fail
          refine (hGk _ b2).mono ?_
          rintro e w3 ⟨rfl, k3⟩
          have b3 := below_in b2 k3
          have aS3 := aS2.below k3 aS2.lt
          clear t0 t1 t2 t3 h0 h1 h2 hGk
          by_cases hg0 : gd = 0
          · subst hg0
            have HW2 : Hid (∀ i, i < k + 1 → WhT s i) := by
              show ∀ _, _
              intro i hi
              rcases Nat.lt_succ_iff_lt_or_eq.1 hi with h | rfl
              · exact HW.out i h
              · exact hWk.out.2 (by simp)
            go_wp2_with fail
            exact ⟨⟨k + 1, by omega, by go_num, HW2, by first | exact aS3 | (rw [HTA.out]; exact aS3), b3⟩, by simp [intOf]; omega⟩
          · have hgn : (gd != 0) = true := by simpa using hg0
            have HR := Lib.hid (HN.out (fun h => hg0 (hWk.out.1 (h.2.2.2.1 k hlt)).2))
            clear HY HN
            go_wp2_with fail
            go_ret
            exact ⟨HR.out, b3⟩
      · obtain rfl : k = s.tn := by omega
        clear hPh hGo hT
        go_wp2_with fail
        go_loopw [51] (fun iv wr => ∃ (k : Nat), k ≤ s.gn ∧ iv = .int .i64 k ∧ Hid (∀ i, i < k → WhG s (s.grants.getD i default)) ∧ At wr w.heap.size 25 #[.int .i64 s.ver, .slice s.tA s.tn s.tcap, .slice s.gA s.gn s.gcap] ∧ Below w.heap.size w wr) (fun iv _ => s.gn - (intOf iv).toNat)
        case atStart => exact ⟨0, by omega, rfl, show ∀ _, _ from fun i h => by omega, aSr, br⟩
        case round =>
          clear aSr br s0 s1 s2
          obtain ⟨k, hk, rfl, HW3, aSr, br⟩ := hrel
          obtain ⟨s0, s1, s2⟩ := aSr.tri0
          by_cases hlt : k < s.gn
          · obtain ⟨bb, off, hgA, hbl, hcell⟩ := hG.2.2 (by omega)
            obtain ⟨c0, c1, c2⟩ := (hcell k hlt).keep fun i => br.cell (p := ⟨bb, i, none⟩) hbl
            have hki : (k : Int) < (s.gn : Int) := by omega
            have hPk := hPl (s.grants.getD k default).table
            rw [place_opt] at hPk
            obtain ⟨pl, hpl⟩ : ∃ pl, tabAt s (s.grants.getD k default).table = pl := ⟨_, rfl⟩
            have hWk : Hid (WhG s (s.grants.getD k default) ↔ pl ≠ none) := by show _ ↔ _; unfold WhG; rw [hpl]
            rw [hpl] at hPk
            rw [hgA] at hPk aSr s2 ⊢
            have HGA := Lib.hid hgA
            clear hpl hcell hG hgA hPl
            obtain ⟨g, hg⟩ : ∃ g, s.grants.getD k default = g := ⟨_, rfl⟩
            rw [hg] at hPk c0 c1 c2
            clear hg
            have hb0 := below_box wr (.cells #[.int .i64 g.role, .string ⟨g.table.toArray⟩, .int .i64 g.bits] 50)
            have bT := below_in br hb0
            have aST := aSr.below hb0 aSr.lt
            have aTT := At.fresh wr 50 #[.int .i64 g.role, .string ⟨g.table.toArray⟩, .int .i64 g.bits]
            obtain ⟨d0, d1, d2⟩ := aST.tri0
            obtain ⟨t0, t1, t2⟩ := aTT.tri0
            clear aTT hb0
            go_wp2_with fail
            refine (hPk _ bT).mono ?_
            rintro e w2 ⟨rfl, k2⟩
            have b2 := below_in bT k2
            have aS2 := aST.below k2 aST.lt
            clear t0 t1 t2 d0 d1 d2 s0 s1 s2 hPk
            cases pl with
            | none =>
              have HR := Lib.hid (HN.out (fun h => (hWk.out.1 (h.2.2.2.2 k hlt)) rfl))
              clear HY HN
              unfold optI
              simp only
              go_wp2_with fail
              go_ret
              exact ⟨HR.out, b2⟩
            | some j =>
              have hj : ¬ (j : Int) < 0 := by omega
              have HW4 : Hid (∀ i, i < k + 1 → WhG s (s.grants.getD i default)) := by
                show ∀ _, _
                intro i hi
                rcases Nat.lt_succ_iff_lt_or_eq.1 hi with h | rfl
                · exact HW3.out i h
                · exact hWk.out.2 (by simp)
              unfold optI
              simp only
              go_wp2_with fail
              exact ⟨⟨k + 1, by omega, by go_num, HW4, by first | exact aS2 | (rw [HGA.out]; exact aS2), b2⟩, by simp [intOf]; omega⟩
          · obtain rfl : k = s.gn := by omega
            have HR := Lib.hid (HY.out ⟨by omega, hn12, HS.out, HW.out, HW3.out⟩)
            clear HY HN
            go_wp2_with fail
            go_ret
            exact ⟨HR.out, br⟩
end Go.Proofs.YtnhalfdddcjicaaGreat

namespace Go.Proofs.YtnhalfdddcjicaaGreat
open Go.RowKit

/-- Tables in a row, each good behind those ahead of it. -/
def WholeL (L : List Tb) : Prop := ∀ A x B, L = A ++ x :: B → findD (A.map treeT) x.name = none ∧ goodL x (lookD (A.map treeT)) = 0
theorem head_tree (s : Sc) {i : Nat} (hi : i ≤ s.tn) : (treeS (headS s i)).tabs = (((List.range s.tn).map s.tab).take i).map treeT := by
  rw [← List.map_take, List.take_range, Nat.min_eq_left hi, List.map_map]
  rfl
theorem whT_is {w : World} {s : Sc} (hs : InS w s) {i : Nat} (hi : i < s.tn) : WhT s i ↔ findD ((((List.range s.tn).map s.tab).take i).map treeT) (s.tab i).name = none ∧ goodL (s.tab i) (lookD ((((List.range s.tn).map s.tab).take i).map treeT)) = 0 := by
  have hh := in_head hs (Nat.le_of_lt hi)
  unfold WhT
  rw [tab_none, good_is, look_is (fun j hj => cols_len hh hj), head_tree s (Nat.le_of_lt hi)]
theorem split_i {α : Type} [Inhabited α] {L : List α} {i : Nat} (hi : i < L.length) : L = L.take i ++ L.getD i default :: L.drop (i + 1) := by
  rw [List.getD_eq_getElem?_getD, List.getElem?_eq_getElem hi]
  simp
theorem wholeL_is {w : World} {s : Sc} (hs : InS w s) : (∀ i, i < s.tn → WhT s i) ↔ WholeL ((List.range s.tn).map s.tab) := by
  constructor
  · intro h A x B e
    have hl : A.length < s.tn := by
      have := congrArg List.length e
      simp at this
      omega
    have h1 := (whT_is hs hl).1 (h _ hl)
    have h2 : ((List.range s.tn).map s.tab).take A.length = A := by rw [e]; simp
    have h3 : s.tab A.length = x := by
      have := congrArg (fun l => l[A.length]?) e
      simp [hl] at this
      exact this
    rw [h2, h3] at h1
    exact h1
  · intro h i hi
    rw [whT_is hs hi]
    have e := split_i (L := (List.range s.tn).map s.tab) (i := i) (by simpa using hi)
    have h3 : ((List.range s.tn).map s.tab).getD i default = s.tab i := by simp [hi]
    rw [h3] at e
    exact h _ _ _ e
theorem WholeL.snoc {L : List Tb} {y : Tb} (h : WholeL L) (h1 : findD (L.map treeT) y.name = none) (h2 : goodL y (lookD (L.map treeT)) = 0) : WholeL (L ++ [y]) := by
  intro A x B e
  rcases List.eq_nil_or_concat B with rfl | ⟨B', z, rfl⟩
  · obtain ⟨e1, e2⟩ := List.append_inj' e rfl
    subst e1
    simp only [List.cons.injEq, and_true] at e2
    subst e2
    exact ⟨h1, h2⟩
  · rw [List.concat_eq_append, ← List.cons_append, ← List.append_assoc] at e
    obtain ⟨e1, -⟩ := List.append_inj' e rfl
    exact h A x B' e1
theorem find_skip {P Q : List Td} {d : Td} {x : List UInt8} (h : d.name ≠ x) : findD (P ++ d :: Q) x = findD (P ++ Q) x := by
  unfold findD
  rw [List.find?_append, List.find?_append, List.find?_cons, decide_eq_false h]
theorem find_sub {P Q : List Td} {d : Td} {x : List UInt8} (h : findD (P ++ d :: Q) x = none) : findD (P ++ Q) x = none := by
  rw [find_none] at h ⊢
  intro t ht
  refine h t ?_
  rcases List.mem_append.1 ht with h' | h'
  · exact List.mem_append.2 (.inl h')
  · exact List.mem_append.2 (.inr (List.mem_cons_of_mem _ h'))
theorem simT_refl {w : World} {t : Tb} (h : InT w t) : simT t t := simT_tree h h rfl
theorem WholeL.erase {w : World} {P Q : List Tb} {d : Tb} (hin : ∀ x ∈ P ++ d :: Q, InT w x) (h : WholeL (P ++ d :: Q)) (hr : ∀ x ∈ P ++ d :: Q, x.name ≠ d.name → ∀ c ∈ x.cols, c.ref ≠ [] → c.ref ≠ d.name) : WholeL (P ++ Q) := by
  intro A x B e
  rcases List.append_eq_append_iff.1 e with ⟨A', rfl, e2⟩ | ⟨B', e1, e2⟩
  · subst e2
    have hx : x ∈ P ++ d :: (A' ++ x :: B) := by simp
    obtain ⟨h1, h2⟩ := h (P ++ d :: A') x B (by simp)
    rw [List.map_append, List.map_cons] at h1 h2
    rw [List.map_append]
    refine ⟨find_sub h1, ?_⟩
    have hne : x.name ≠ d.name := fun e => (find_none.1 h1) (treeT d) (by simp) e.symm
    rw [← h2]
    refine goodL_congr (simT_refl (hin x hx)) (fun c hc h0 _ => ?_)
    unfold lookD
    rw [find_skip (show (treeT d).name ≠ c.ref from fun e => hr x hx hne c hc h0 e.symm)]
  · cases B' with
    | nil =>
      simp only [List.append_nil, List.nil_append] at e1 e2
      subst e1
      subst e2
      have hx : x ∈ P ++ d :: x :: B := by simp
      obtain ⟨h1, h2⟩ := h (P ++ [d]) x B (by simp)
      rw [List.map_append] at h1 h2
      have hne : x.name ≠ d.name := fun e => (find_none.1 h1) (treeT d) (by simp) e.symm
      have hsub := find_sub h1
      rw [List.map_nil, List.append_nil] at hsub
      refine ⟨hsub, ?_⟩
      rw [← h2]
      refine goodL_congr (simT_refl (hin x hx)) (fun c hc h0 _ => ?_)
      unfold lookD
      rw [show (List.map treeT [d]) = [treeT d] from rfl, find_skip (show (treeT d).name ≠ c.ref from fun e => hr x hx hne c hc h0 e.symm), List.append_nil]
    | cons b B' =>
      simp only [List.cons_append, List.cons.injEq] at e2
      obtain ⟨rfl, rfl⟩ := e2
      subst e1
      exact h A x (B' ++ d :: Q) (by simp)
theorem WholeL.like {w w' : World} {L L' : List Tb} (h : WholeL L) (hin : ∀ x ∈ L, InT w x) (hin' : ∀ x ∈ L', InT w' x) (e : L.map treeT = L'.map treeT) : WholeL L' := by
  intro A x B e'
  subst e'
  rw [List.map_append, List.map_cons] at e
  obtain ⟨A0, R, rfl, hA, hR⟩ := List.map_eq_append_iff.1 e
  obtain ⟨x0, B0, rfl, hx, hB⟩ := List.map_eq_cons_iff.1 hR
  obtain ⟨h1, h2⟩ := h A0 x0 B0 rfl
  have hn : x0.name = x.name := congrArg Td.name hx
  rw [← hA, ← hn]
  refine ⟨h1, ?_⟩
  rw [← h2]
  exact goodL_congr (simT_tree (hin' x (by simp)) (hin x0 (by simp)) hx.symm) (fun c _ _ _ => rfl)
end Go.Proofs.YtnhalfdddcjicaaGreat
