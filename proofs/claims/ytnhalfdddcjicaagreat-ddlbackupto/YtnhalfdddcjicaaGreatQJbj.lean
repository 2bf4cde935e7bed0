/- The walk of the law DdlBack. -/
/- What the bound of the second form gives: how many letters a slice of strings holds. -/
import Derived.Test.YtnhalfdddcjicaaGreatQJbi
import Derived.Test.YtnhalfdddcjicaaGreatRows
namespace Go.Proofs.YtnhalfdddcjicaaGreat
open Go.RowKit

/-- A schema at another version. -/
def Sc.at_ (o : Sc) (v : Int) : Sc := { o with ver := v }
theorem in_at {w : World} {o : Sc} (h : InS w o) {v : Int} (hv : I64 v) : InS w (o.at_ v) := ⟨hv, h.tmax, h.gmax, h.tabs, h.grants⟩
theorem back_sim {w w' : World} {o s : Sc} (ho : InS w o) (hs : InS w' s) (h1 : (treeS o).tabs = (treeS s).tabs) (h2 : o.grants = s.grants) : simS (o.at_ s.ver) s := by
  refine simS_tree (in_at ho hs.ver) hs ?_
  show (⟨s.ver, (treeS o).tabs, o.grants⟩ : Sd) = ⟨s.ver, (treeS s).tabs, s.grants⟩
  rw [h1, h2]
theorem small_made {w w' : World} {s x : Sc} {t : Tb} (h : Made w s t x) (hx : InS w' x) : wtS x ≤ 16384 ∧ x.gn ≤ 64 ∧ x.tn ≤ 12 := by
  have h1 := wt_encS hx
  have h2 := h.len
  have h3 := h.whole.2.2.1.1
  have h4 := h.whole.2.1
  have h5 := hx.grants.1
  exact ⟨by omega, by omega, h4⟩

set_option maxRecDepth 100000 in
set_option maxHeartbeats 12800000 in
theorem ddlBack_main (s : Sc) (t : Tb) (role bits : Int) (w : World) (hs : InS w s) (hw : wtS s ≤ 1048576) (hcap : s.gn ≤ s.gcap) (htcap : s.tn ≤ s.tcap) (ht : InT w t) (_hwt : wtT t ≤ 1048576) (hr : I64 role) (hb : I64 bits) (hsum : wtS s + wtT t ≤ 1048576) :
    Calls Tryz.prog 6 #[s.val, t.val, .int .i64 role, .int .i64 bits] w fun e w' => e = .returned (.bool true) ∧ Below w.heap.size w w' := by
  have b1 := below_box w (.cells #[.int .i64 s.ver, .slice s.tA s.tn s.tcap, .slice s.gA s.gn s.gcap] 25)
  have aS := At.fresh w 25 #[.int .i64 s.ver, .slice s.tA s.tn s.tcap, .slice s.gA s.gn s.gcap]
  have b2 := below_box (w.alloc (.cells #[.int .i64 s.ver, .slice s.tA s.tn s.tcap, .slice s.gA s.gn s.gcap] 25)) (.cells #[.string ⟨t.name.toArray⟩, .int .i64 t.owner, .slice t.cA t.cn t.ccap, .slice t.eA t.en t.ecap] 32)
  have aT := At.fresh (w.alloc (.cells #[.int .i64 s.ver, .slice s.tA s.tn s.tcap, .slice s.gA s.gn s.gcap] 25)) 32 #[.string ⟨t.name.toArray⟩, .int .i64 t.owner, .slice t.cA t.cn t.ccap, .slice t.eA t.en t.ecap]
  have aS2 := aS.below b2 aS.lt
  have bb := below_in b1 b2
  obtain ⟨W, hW⟩ : ∃ W, (w.alloc (.cells #[.int .i64 s.ver, .slice s.tA s.tn s.tcap, .slice s.gA s.gn s.gcap] 25)).alloc (.cells #[.string ⟨t.name.toArray⟩, .int .i64 t.owner, .slice t.cA t.cn t.ccap, .slice t.eA t.en t.ecap] 32) = W := ⟨_, rfl⟩
  rw [hW] at aT aS2 bb
  simp only [World.size_alloc] at aT
  have HW := Lib.hid hW
  clear hW b1 b2 aS
  have hw3 : 3 ≤ wtS s := by unfold wtS; omega
  have hnm : t.name.length + 4 ≤ wtT t := by unfold wtT; omega
  have i0 : I64 0 := by unfold I64; decide
  have hS0 := fun w1 (b : Below w.heap.size w w1) => in_stAt (w := w1) 0 [] 0 0 i0 (by show 0 ≤ maxLen; unfold maxLen; decide) (ht.below b) i0 i0
  have hS6 := fun w1 (b : Below w.heap.size w w1) => in_stAt (w := w1) 6 [] 0 0 (by unfold I64; decide) (by show 0 ≤ maxLen; unfold maxLen; decide) (ht.below b) i0 i0
  have hG := fun w1 (b : Below w.heap.size w w1) => dgreat_any s (stAt 0 [] t 0 0) w1 (hs.below b) (hS0 w1 b) hw
  have hR := fun w1 (b : Below w.heap.size w w1) => rwhole_any s w1 (hs.below b) (by omega) hcap htcap
  have hD6 := fun w1 (b : Below w.heap.size w w1) (hg : s.gn ≤ 1000) (hn : s.tn ≤ 1000) => dapplyC_any s 0 (stAt 6 [] t 0 0) w1 (hs.below b) (hS6 w1 b) i0 hw (show wtT t ≤ 1048573 by omega) (show wtS s + wtT t + 0 ≤ 1900000 by omega) hg hn
  have hBy := fun w1 (b : Below w.heap.size w w1) => rbytesS_any s w1 (hs.below b) (by have := encSd_wt hs (by omega); omega)
  have HMx : Hid (∀ x w', InS w' x → WholeS s → s.ver ≤ 1152921504606846976 → AppF s 0 (stAt 6 [] t 0 0) 0 x → Made w' s t x ∧ findD (treeS s).tabs t.name = none ∧ x.grants = s.grants ∧ x.ver ≤ 1152921504606846977) := by
    show ∀ _, _
    exact fun x w' h1 h2 h3 h4 => made_x hs ht h2 h3 h1 h4
  have HS := Lib.hid hs
  have HTn : Hid (t.name.length ≤ maxLen ∧ t.name.length ≤ 1048576) := show _ ∧ _ from ⟨ht.name, by omega⟩
  have HRB : Hid (I64 role ∧ I64 bits) := show _ ∧ _ from ⟨hr, hb⟩
  clear hs hw hcap htcap ht _hwt hr hb hsum hw3 hnm hS0 hS6
  unfold Sc.val at hG hR hD6 hBy ⊢
  unfold Tb.val
  go_enter Tryz.func6, Tryz.ntmps6
  go_wp2_with fail
  rw [HW.out]
  clear HW
  refine (dalive_any _).mono ?_
  rintro e w1 ⟨rfl, k1⟩
  have bb1 := below_in bb k1
  have aS1 := aS2.below k1 aS2.lt
  have aT1 := aT.below k1 aT.lt
  clear aS2 aT bb k1
  obtain ⟨s0, s1, s2⟩ := aS1.tri0
  obtain ⟨t0, t1, t2, t3, -⟩ := aT1.four
  go_wp2_with fail
  refine (hG _ bb1).mono ?_
  rintro e w2 ⟨⟨B, rfl, hB⟩, k2⟩
  have bb2 := below_in bb1 k2
  have aS2 := aS1.below k2 aS1.lt
  have aT2 := aT1.below k2 aT1.lt
  clear aS1 aT1 bb1 k2 s0 s1 s2 t0 t1 t2 t3 hG
  obtain ⟨s0, s1, s2⟩ := aS2.tri0
  cases B with
  | true =>
    go_wp2_with fail
    go_ret
    exact ⟨rfl, bb2⟩
  | false =>
    have hn := hB rfl
    have HN : Hid (s.tn ≤ 1000 ∧ s.gn ≤ 1000) := show _ ∧ _ from ⟨by omega, by omega⟩
    clear hB hn
    go_wp2_with fail
    refine (hR _ bb2).mono ?_
    rintro e w3 ⟨⟨B1, rfl, hB1⟩, k3⟩
    have bb3 := below_in bb2 k3
    have aS3 := aS2.below k3 aS2.lt
    have aT3 := aT2.below k3 aT2.lt
    clear aS2 aT2 bb2 k3 s0 s1 s2 hR
    obtain ⟨s0, s1, s2⟩ := aS3.tri0
    obtain ⟨t0, t1, t2, t3, -⟩ := aT3.four
    have HB1 := Lib.hid hB1
    clear hB1
    cases B1 with
    | false =>
      go_wp2_with fail
      go_ret
      exact ⟨rfl, bb3⟩
    | true =>
      have HWs : Hid (WholeS s) := Lib.hid (HB1.out.1 rfl)
      clear HB1
      by_cases hv : 1152921504606846976 < s.ver
      · go_wp2_with fail
        go_ret
        exact ⟨rfl, bb3⟩
      · have hD := hD6 _ bb3 HN.out.2 HN.out.1
        clear hD6 HN
        go_wp2_with fail
        refine hD.mono ?_
        rintro e w4 ⟨⟨x, er, rfl, hx, -, hF⟩, k4⟩
        have bb4 := below_in bb3 k4
        have aS4 := aS3.below k4 aS3.lt
        have aT4 := aT3.below k4 aT3.lt
        have kX := below_box w4 (.cells #[.int .i64 x.ver, .slice x.tA x.tn x.tcap, .slice x.gA x.gn x.gcap] 25)
        have aX := At.fresh w4 25 #[.int .i64 x.ver, .slice x.tA x.tn x.tcap, .slice x.gA x.gn x.gcap]
        have bbX := below_in bb4 kX
        have aSX := aS4.below kX aS4.lt
        have aTX := aT4.below kX aT4.lt
        have hxX := hx.below kX
        have hl4 := aT4.lt
        clear s0 s1 s2 t0 t1 t2 t3 hD k4 kX hx aS3 aT3 bb3 aS4 aT4
        obtain ⟨s0, s1, s2⟩ := aSX.tri0
        unfold Sc.val
        by_cases he : er = 0
        · subst he
          obtain ⟨hM, hn, hg, hxv⟩ := HMx.out x _ hxX HWs.out (by omega) (hF HWs.out.2.2.1)
          have HM := Lib.hid hM
          have HNn := Lib.hid hn
          have HGx : Hid (x.grants = s.grants ∧ x.ver ≤ 1152921504606846977) := show _ ∧ _ from ⟨hg, hxv⟩
          have hBx := hBy _ bbX
          clear hF HMx hM hn hg hxv hBy
          go_wp2_with fail
          refine hBx.mono ?_
          rintro e w5 ⟨rfl, k5⟩
          have bb5 := below_in bbX k5
          have aX5 := aX.below k5 aX.lt
          have aS5 := aSX.below k5 aSX.lt
          have aT5 := aTX.below k5 aTX.lt
          have hx5 := hxX.below k5
          clear hBx aSX aTX aX hxX bbX s0 s1 s2
          obtain ⟨s0, s1, s2⟩ := aS5.tri0
          obtain ⟨t0, t1, t2, t3, -⟩ := aT5.four
          obtain ⟨x0, x1, x2⟩ := aX5.tri0
          by_cases hl8 : (8192 : Int) < ((encSd (treeS s)).length : Int)
          · go_wp2_with fail
            go_ret
            exact ⟨rfl, bb5⟩
          · obtain ⟨m1, m2, m3⟩ := small_made HM.out hx5
            have hw4 : wtT (default : Tb) = 4 := rfl
            have hD := dapplyC_any x 0 (stAt 8 t.name default role bits) w5 hx5 (in_stAt 8 _ role bits (by unfold I64; decide) HTn.out.1 (in_dflt w5) HRB.out.1 HRB.out.2) (by unfold I64; decide) (by omega) (show wtT (default : Tb) ≤ 1048573 by omega) (show wtS x + wtT (default : Tb) + t.name.length ≤ 1900000 by have := HTn.out.2; omega) (by omega) (by omega)
            clear m1 m2 m3 hw4
            unfold Sc.val at hD
            go_wp2_with fail
            refine hD.mono ?_
            rintro e w6 ⟨⟨y, f, rfl, hy, -, hF⟩, k6⟩
            have bb6 := below_in bb5 k6
            have aS6 := aS5.below k6 aS5.lt
            have aT6 := aT5.below k6 aT5.lt
            have aX6 := aX5.below k6 aX5.lt
            have hx6 := hx5.below k6
            have kY := below_box w6 (.cells #[.int .i64 y.ver, .slice y.tA y.tn y.tcap, .slice y.gA y.gn y.gcap] 25)
            have aY := At.fresh w6 25 #[.int .i64 y.ver, .slice y.tA y.tn y.tcap, .slice y.gA y.gn y.gcap]
            have bbY := below_in bb6 kY
            have aSY := aS6.below kY aS6.lt
            have aTY := aT6.below kY aT6.lt
            have aXY := aX6.below kY aX6.lt
            have hxY := hx6.below kY
            have hyY := hy.below kY
            clear hD s0 s1 s2 t0 t1 t2 t3 x0 x1 x2 aS5 aT5 aX5 aS6 aT6 aX6 hx5 hx6 hy kY k6 k5
            unfold Sc.val
            obtain ⟨wY, hWY⟩ : ∃ wY, w6.alloc (.cells #[.int .i64 y.ver, .slice y.tA y.tn y.tcap, .slice y.gA y.gn y.gcap] 25) = wY := ⟨_, rfl⟩
            rw [hWY] at aY bbY aSY aTY aXY hxY hyY
            obtain ⟨s0, s1, s2⟩ := aSY.tri0
            obtain ⟨t0, t1, t2, t3, -⟩ := aTY.four
            obtain ⟨x0, x1, x2⟩ := aXY.tri0
            obtain ⟨y0, y1, y2⟩ := aY.tri0

            by_cases hf : f = 0
            · subst hf
              obtain ⟨hMy, hPy, htb⟩ := made_y HS.out HWs.out HNn.out HTn.out.1 HRB.out.1 HRB.out.2 HM.out HGx.out.1 HGx.out.2 hyY (hF HM.out.whole.2.2.1)
              have HMy := Lib.hid hMy
              have HPy := Lib.hid (show PutR x.grants ⟨role, t.name, bits⟩ 0 y.grants ∧ (treeS y).tabs = (treeS x).tabs from ⟨hPy, htb⟩)
              obtain ⟨m1, m2, m3⟩ := small_made HMy.out hyY
              have hw4 : wtT (default : Tb) = 4 := rfl
              have hD := dapplyC_any y 0 (stAt 9 t.name default role bits) wY hyY (in_stAt 9 _ role bits (by unfold I64; decide) HTn.out.1 (in_dflt wY) HRB.out.1 HRB.out.2) (by unfold I64; decide) (by omega) (show wtT (default : Tb) ≤ 1048573 by omega) (show wtS y + wtT (default : Tb) + t.name.length ≤ 1900000 by have := HTn.out.2; omega) (by omega) (by omega)
              clear m1 m2 m3 hw4 hF hMy hPy htb
              unfold Sc.val at hD
              go_wp2_with fail
              refine hD.mono ?_
              rintro e w7 ⟨⟨z, g, rfl, hz, -, hF⟩, k7⟩
              obtain ⟨rfl, q1, q2⟩ := back_z HS.out HWs.out HNn.out HGx.out.1 HM.out.whole.2.2.1 HMy.out HPy.out.1 (hF HMy.out.whole.2.2.1)
              rw [HPy.out.2] at q1
              have bb7 := below_in bbY k7
              have aS7 := aSY.below k7 aSY.lt
              have aT7 := aTY.below k7 aTY.lt
              have aX7 := aXY.below k7 aXY.lt
              have aY7 := aY.below k7 aY.lt
              have hx7 := hxY.below k7
              have hy7 := hyY.below k7
              have kO := below_box w7 (.cells #[.int .i64 z.ver, .slice z.tA z.tn z.tcap, .slice z.gA z.gn z.gcap] 25)
              have kO' := below_box w7 (.cells #[.int .i64 x.ver, .slice z.tA z.tn z.tcap, .slice z.gA z.gn z.gcap] 25)
              have aO := At.fresh w7 25 #[.int .i64 z.ver, .slice z.tA z.tn z.tcap, .slice z.gA z.gn z.gcap]
              have aO' := At.fresh w7 25 #[.int .i64 x.ver, .slice z.tA z.tn z.tcap, .slice z.gA z.gn z.gcap]
              have bbO := below_in bb7 kO'
              have aXO := aX7.below kO aX7.lt
              have aSO' := aS7.below kO' aS7.lt
              have aTO' := aT7.below kO' aT7.lt
              have aXO' := aX7.below kO' aX7.lt
              have aYO' := aY7.below kO' aY7.lt
              have hxO' := hx7.below kO'
              have hyO' := hy7.below kO'
              have hSm := sameS_any (z.at_ x.ver) x _ (in_at (hz.below kO') hx7.ver) hxO' (back_sim hz hx7 q1 q2)
              clear hD hF kO kO' aS7 aT7 aX7 aY7 q1 q2 hz k7 s0 s1 s2 t0 t1 t2 t3 x0 x1 x2 y0 y1 y2 aSY aTY aXY aY hxY hyY hx7 hy7
              obtain ⟨x0, x1, x2⟩ := aXO.tri0
              obtain ⟨x0', x1', x2'⟩ := aXO'.tri0
              obtain ⟨o0, o1, o2⟩ := aO'.tri0
              obtain ⟨p0, p1, p2⟩ := aO.tri0
              have y0' := aO.unfrozen 0
              unfold Sc.val
              unfold Sc.val Sc.at_ at hSm
              simp only at hSm
              go_wp2_with fail
              refine hSm.mono ?_
              rintro e w8 ⟨rfl, k8⟩
              have bb8 := below_in bbO k8
              have aS8 := aSO'.below k8 aSO'.lt
              have aT8 := aTO'.below k8 aTO'.lt
              have aX8 := aXO'.below k8 aXO'.lt
              have aY8 := aYO'.below k8 aYO'.lt
              have hy8 := hyO'.below k8
              clear x0 x1 x2 x0' x1' x2' o0 o1 o2 p0 p1 p2 y0' aXO aXO' aO aO' aSO' aTO' aYO' hxO' hyO' hSm k8 bbO bb7
              obtain ⟨x0, x1, x2⟩ := aX8.tri0
              have z0 := aX8.unfrozen 0
              have z1 := aX8.unfrozen 1
              have z2 := aX8.unfrozen 2
              obtain ⟨y0, y1, y2⟩ := aY8.tri0
              obtain ⟨t0, t1, t2, t3, -⟩ := aT8.four
              have bb9 := fun a b c => below_set3 (g := w4.heap.size) bb8 (by omega) a b c
              have hy9 := fun a b c => hy8.set3 aX8 a b c
              have aS9 := fun a b c => ((aS8.elsewhere (p := ⟨w4.heap.size, 0, none⟩) (by show w.heap.size ≠ w4.heap.size; omega) a).elsewhere (p := ⟨w4.heap.size, 1, none⟩) (by show w.heap.size ≠ w4.heap.size; omega) b).elsewhere (p := ⟨w4.heap.size, 2, none⟩) (by show w.heap.size ≠ w4.heap.size; omega) c
              have aT9 := fun a b c => ((aT8.elsewhere (p := ⟨w4.heap.size, 0, none⟩) (by show w.heap.size + 1 ≠ w4.heap.size; omega) a).elsewhere (p := ⟨w4.heap.size, 1, none⟩) (by show w.heap.size + 1 ≠ w4.heap.size; omega) b).elsewhere (p := ⟨w4.heap.size, 2, none⟩) (by show w.heap.size + 1 ≠ w4.heap.size; omega) c
              obtain ⟨W9, hW9⟩ : ∃ W9, ((w8.setCell ⟨w4.heap.size, 0, none⟩ (.int .i64 y.ver)).setCell ⟨w4.heap.size, 1, none⟩ (.slice y.tA y.tn y.tcap)).setCell ⟨w4.heap.size, 2, none⟩ (.slice y.gA y.gn y.gcap) = W9 := ⟨_, rfl⟩
              have hyW := hy9 (.int .i64 y.ver) (.slice y.tA y.tn y.tcap) (.slice y.gA y.gn y.gcap)
              have bbW := bb9 (.int .i64 y.ver) (.slice y.tA y.tn y.tcap) (.slice y.gA y.gn y.gcap)
              have aSW := aS9 (.int .i64 y.ver) (.slice y.tA y.tn y.tcap) (.slice y.gA y.gn y.gcap)
              have aTW := aT9 (.int .i64 y.ver) (.slice y.tA y.tn y.tcap) (.slice y.gA y.gn y.gcap)
              rw [hW9] at hyW bbW aSW aTW
              have HW9 := Lib.hid hW9
              clear hW9 bb9 hy9 aS9 aT9
              obtain ⟨m1, m2, m3⟩ := small_made HMy.out hyW
              have hw4 : wtT (default : Tb) = 4 := rfl
              have hD := dapplyC_any y 0 (stAt 7 t.name default 0 0) W9 hyW (in_stAt 7 _ 0 0 (by unfold I64; decide) HTn.out.1 (in_dflt W9) (by unfold I64; decide) (by unfold I64; decide)) (by unfold I64; decide) (by omega) (show wtT (default : Tb) ≤ 1048573 by omega) (show wtS y + wtT (default : Tb) + t.name.length ≤ 1900000 by have := HTn.out.2; omega) (by omega) (by omega)
              clear m1 m2 m3 hw4
              unfold Sc.val at hD
              go_wp2_with fail
              rw [HW9.out]
              obtain ⟨s0, s1, s2⟩ := aSW.tri0
              refine hD.mono ?_
              rintro e w7 ⟨⟨o, hh, rfl, ho, -, hF⟩, k7⟩
              obtain ⟨rfl, q1, q2⟩ := HMy.out.drop HS.out HWs.out HNn.out (hF HMy.out.whole.2.2.1)
              have bb7 := below_in bbW k7
              have aS7 := aSW.below k7 aSW.lt
              have kO := below_box w7 (.cells #[.int .i64 o.ver, .slice o.tA o.tn o.tcap, .slice o.gA o.gn o.gcap] 25)
              have kO' := below_box w7 (.cells #[.int .i64 s.ver, .slice o.tA o.tn o.tcap, .slice o.gA o.gn o.gcap] 25)
              have aO := At.fresh w7 25 #[.int .i64 o.ver, .slice o.tA o.tn o.tcap, .slice o.gA o.gn o.gcap]
              have aO' := At.fresh w7 25 #[.int .i64 s.ver, .slice o.tA o.tn o.tcap, .slice o.gA o.gn o.gcap]
              have bbO := below_in bb7 kO'
              have aSO := aS7.below kO aS7.lt
              have aSO' := aS7.below kO' aS7.lt
              have hSm := sameS_any (o.at_ s.ver) s _ (in_at (ho.below kO') HS.out.ver) (HS.out.below bbO) (back_sim ho HS.out q1 q2)
              clear hD hF kO kO' aS7 q1 q2 ho k7 s0 s1 s2 t0 t1 t2 t3 x0 x1 x2 z0 z1 z2 y0 y1 y2
              obtain ⟨s0, s1, s2⟩ := aSO.tri0
              obtain ⟨s0', s1', s2'⟩ := aSO'.tri0
              obtain ⟨o0, o1, o2⟩ := aO'.tri0
              obtain ⟨p0, p1, p2⟩ := aO.tri0
              have y0' := aO.unfrozen 0
              unfold Sc.val
              unfold Sc.val Sc.at_ at hSm
              simp only at hSm
              go_wp2_with fail
              refine hSm.mono ?_
              rintro e w8 ⟨rfl, k8⟩
              have bb8 := below_in bbO k8
              go_wp2_with fail
              go_ret
              exact ⟨rfl, bb8⟩
            · have hff : (f == 0) = false := by simpa using hf
              obtain ⟨m1, m2, m3⟩ := small_made HM.out hxY
              have hw4 : wtT (default : Tb) = 4 := rfl
              have hD := dapplyC_any x 0 (stAt 7 t.name default 0 0) wY hxY (in_stAt 7 _ 0 0 (by unfold I64; decide) HTn.out.1 (in_dflt wY) (by unfold I64; decide) (by unfold I64; decide)) (by unfold I64; decide) (by omega) (show wtT (default : Tb) ≤ 1048573 by omega) (show wtS x + wtT (default : Tb) + t.name.length ≤ 1900000 by have := HTn.out.2; omega) (by omega) (by omega)
              clear m1 m2 m3 hw4 hF
              unfold Sc.val at hD
              go_wp2_with fail
              refine hD.mono ?_
              rintro e w7 ⟨⟨o, hh, rfl, ho, -, hF⟩, k7⟩
              obtain ⟨rfl, q1, q2⟩ := HM.out.drop HS.out HWs.out HNn.out (hF HM.out.whole.2.2.1)
              have bb7 := below_in bbY k7
              have aS7 := aSY.below k7 aSY.lt
              have kO := below_box w7 (.cells #[.int .i64 o.ver, .slice o.tA o.tn o.tcap, .slice o.gA o.gn o.gcap] 25)
              have kO' := below_box w7 (.cells #[.int .i64 s.ver, .slice o.tA o.tn o.tcap, .slice o.gA o.gn o.gcap] 25)
              have aO := At.fresh w7 25 #[.int .i64 o.ver, .slice o.tA o.tn o.tcap, .slice o.gA o.gn o.gcap]
              have aO' := At.fresh w7 25 #[.int .i64 s.ver, .slice o.tA o.tn o.tcap, .slice o.gA o.gn o.gcap]
              have bbO := below_in bb7 kO'
              have aSO := aS7.below kO aS7.lt
              have aSO' := aS7.below kO' aS7.lt
              have hSm := sameS_any (o.at_ s.ver) s _ (in_at (ho.below kO') HS.out.ver) (HS.out.below bbO) (back_sim ho HS.out q1 q2)
              clear hD hF kO kO' aS7 q1 q2 ho k7 s0 s1 s2 t0 t1 t2 t3 x0 x1 x2 y0 y1 y2
              obtain ⟨s0, s1, s2⟩ := aSO.tri0
              obtain ⟨s0', s1', s2'⟩ := aSO'.tri0
              obtain ⟨o0, o1, o2⟩ := aO'.tri0
              obtain ⟨p0, p1, p2⟩ := aO.tri0
              have y0' := aO.unfrozen 0
              unfold Sc.val
              unfold Sc.val Sc.at_ at hSm
              simp only at hSm
              go_wp2_with fail
              refine hSm.mono ?_
              rintro e w8 ⟨rfl, k8⟩
              have bb8 := below_in bbO k8
              go_wp2_with fail
              go_ret
              exact ⟨rfl, bb8⟩
        · have her : (er != 0) = true := by simpa using he
          clear hF HMx hBy
          go_wp2_with fail
          go_ret
          exact ⟨rfl, bbX⟩
end Go.Proofs.YtnhalfdddcjicaaGreat

namespace Go.Proofs.YtnhalfdddcjicaaGreat.bulks

theorem bound {H : Type} {l : List (DataW H)} (hk : Rows.uptoSmall H l = true) : Rows.uptoBulkAll l ≤ 1048576 := of_decide_eq_true hk

theorem letters {H : Type} : ∀ ss : List (List UInt8), ss.flatten.length + ss.length ≤ Rows.uptoBulkAll (ss.map fun s => DataW.lit (H := H) (.string s))
  | [] => by simp
  | s :: r => by
    have := letters (H := H) r
    simp only [List.map_cons, Rows.uptoBulkAll, Rows.uptoBulk, List.flatten_cons, List.length_append, List.length_cons]
    omega

theorem strs_le {H : Type} {d : DataW H} {ss : List (List UInt8)} (hB : Rows.uptoBulk d ≤ 1048576) (u : d = .nil ∧ ss = [] ∨ ∃ sp, d = .slice (ss.map fun s => .lit (.string s)) sp) : ss.flatten.length ≤ 1048576 := by
  rcases u with ⟨_, rfl⟩ | ⟨sp, rfl⟩
  · simp
  · have h1 := letters (H := H) ss
    simp only [Rows.uptoBulk] at hB
    omega
theorem str_le {H : Type} {l : List UInt8} (hB : Rows.uptoBulk (DataW.lit (H := H) (.string l)) ≤ 1048576) : l.length ≤ 1048576 := by
  simp only [Rows.uptoBulk] at hB
  omega
end Go.Proofs.YtnhalfdddcjicaaGreat.bulks
