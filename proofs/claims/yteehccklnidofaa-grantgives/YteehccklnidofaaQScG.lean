/- The walk of the reference's Great: it returns. -/
import Derived.Test.YteehccklnidofaaQScL
import Derived.Test.YteehccklnidofaaQExK
namespace Go.Proofs.Yteehccklnidofaa
open Go.RowKit

set_option maxRecDepth 100000 in
set_option maxHeartbeats 3200000 in
theorem sgreat_any (s : Sc) (w : World) (hs : InS w s) : Calls Try.prog 17 #[s.val] w fun e w' => IsBool e ∧ Below w.heap.size w w' := by
  have b0 := below_box w (.cells #[.int .i64 s.ver, .slice s.tA s.tn s.tcap, .slice s.gA s.gn s.gcap] 36)
  have aS := At.fresh w 36 #[.int .i64 s.ver, .slice s.tA s.tn s.tcap, .slice s.gA s.gn s.gcap]
  have htm := hs.tmax
  have hgm := hs.gmax
  have hT := hs.tabs
  have hG := hs.grants
  unfold maxLen at htm hgm
  clear hs
  obtain ⟨ver, tA, tn, tcap, tab, gA, gn, gcap, gs⟩ := s
  unfold Sc.val
  simp only at *
  go_enter Try.func17, Try.ntmps17
  go_wp2_with fail
  · go_ret
    exact ⟨⟨_, rfl⟩, b0⟩
  go_loopw [3, 24] (fun nv i wr => ∃ (k : Nat) (z : Int), k ≤ tn ∧ i = .int .i64 k ∧ nv = .int .i64 z ∧ Below w.heap.size w wr ∧ At wr w.heap.size 36 #[.int .i64 ver, .slice tA tn tcap, .slice gA gn gcap]) (fun _ i _ => tn - (intOf i).toNat)
  case atStart => exact ⟨0, _, by omega, rfl, rfl, b0, aS⟩
  case round =>
    obtain ⟨k, z, hk, rfl, rfl, hbr, aSr⟩ := hrel
    clear b0 aS
    have hne := Nat.ne_of_lt aSr.lt
    by_cases hlt : k < tn
    · obtain ⟨b, off, rfl, hbl, hcell⟩ := hT (by omega)
      obtain ⟨hcl, hin⟩ := hcell k hlt
      obtain ⟨c0, c1, c2, c3⟩ := hcl.keep fun i => hbr.cell (p := ⟨b, i, none⟩) hbl
      clear hcell hcl
      generalize tab k = t at *
      have hcm := hin.cmax
      have hem := hin.emax
      have hcols := hin.cols
      have hchk := hin.chk
      have hnl := hin.name
      unfold maxLen at hcm hem hnl
      clear hin
      obtain ⟨nm, ow, cA, cn, ccap, cols, eA, en, ecap, chk⟩ := t
      simp only at c0 c1 c2 c3 hcm hem hcols hchk hnl
      have aT := At.fresh wr 48 #[.string ⟨nm.toArray⟩, .int .i64 ow, .slice cA cn ccap, .slice eA en ecap]
      have aS1 := aSr.alloc (.cells #[.string ⟨nm.toArray⟩, .int .i64 ow, .slice cA cn ccap, .slice eA en ecap] 48)
      have hb1 := hbr.alloc hbr.size (.cells #[.string ⟨nm.toArray⟩, .int .i64 ow, .slice cA cn ccap, .slice eA en ecap] 48)
      go_wp2_with fail
      go_loopw [3, 44] (fun nv i wx => ∃ (k' : Nat) (z' : Int), k' ≤ cn ∧ i = .int .i64 k' ∧ nv = .int .i64 z' ∧ Below w.heap.size w wx ∧ At wx w.heap.size 36 #[.int .i64 ver, .slice (some ⟨b, off, none⟩) tn tcap, .slice gA gn gcap] ∧
        At wx wr.heap.size 48 #[.string ⟨nm.toArray⟩, .int .i64 ow, .slice cA cn ccap, .slice eA en ecap]) (fun _ i _ => cn - (intOf i).toNat)
      case atStart => exact ⟨0, _, by omega, rfl, rfl, hb1, aS1, aT⟩
      case round =>
        clear aT aS1 hb1 c0 c1 c2 c3 aSr hbr
        obtain ⟨k', z', hk', rfl, rfl, hbx, aSx, aTx⟩ := hrel
        have hne' := Nat.ne_of_lt aTx.lt
        have hne2 := Nat.ne_of_lt aSx.lt
        by_cases hlt' : k' < cn
        · obtain ⟨b', off', rfl, hbl', hc'⟩ := hcols.2.2 (by omega)
          have hcell' := (hc' k' hlt').keep fun i => hbx.cell (p := ⟨b', i, none⟩) hbl'
          have hco : (cols.getD k' default).Ok := by
            have hl : k' < cols.length := by rw [hcols.1]; exact hlt'
            rw [List.getD_eq_getElem?_getD, List.getElem?_eq_getElem hl]
            exact hcols.2.1 _ (List.getElem_mem hl)
          have l1 := hco.name
          have l2 := hco.ref
          clear hc' hco
          generalize cols.getD k' default = c at *
          unfold maxLen at l1 l2
          obtain ⟨d0, d1, d2, d3, d4, d5⟩ := hcell'
          have aSy := fun o => aSx.alloc o
          have aTy := fun o => aTx.alloc o
          have hby := fun o => hbx.alloc hbx.size o
          go_wp2_with fail
          exact ⟨⟨k' + 1, _, by omega, by go_num, rfl, hby _, aSy _, aTy _⟩, by simp [intOf]; omega⟩
        · obtain ⟨t0, t1, t2, t3, -⟩ := aTx.four
          clear hcols
          go_wp2_with fail
          go_loopw [61] (fun i wy => ∃ (k2 : Nat), k2 ≤ en ∧ i = .int .i64 k2 ∧ Below w.heap.size w wy ∧ At wy w.heap.size 36 #[.int .i64 ver, .slice (some ⟨b, off, none⟩) tn tcap, .slice gA gn gcap]) (fun i _ => en - (intOf i).toNat)
          case atStart => exact ⟨0, by omega, rfl, hbx, aSx⟩
          case round =>
            clear hbx aSx aTx t0 t1 t2 t3
            obtain ⟨k2, hk2, rfl, hby, aSy⟩ := hrel
            by_cases hlt2 : k2 < en
            · obtain ⟨b2, off2, rfl, hbl2, hc2⟩ := hchk (by omega)
              obtain ⟨hcl2, hin2⟩ := hc2 k2 hlt2
              obtain ⟨x0, x1, x2, x3, x4, x5⟩ := hcl2.keep fun i => hby.cell (p := ⟨b2, i, none⟩) hbl2
              clear hc2 hcl2
              have hbz := hby.alloc hby.size (.cells #[.int .i64 (chk k2).op, .int .i64 (chk k2).col, .int .i64 (chk k2).v.kind, .int .i64 (chk k2).v.num, .string ⟨(chk k2).v.text.toArray⟩, .slice (chk k2).A (chk k2).n (chk k2).cap] 61)
              have aSz := aSy.alloc (.cells #[.int .i64 (chk k2).op, .int .i64 (chk k2).col, .int .i64 (chk k2).v.kind, .int .i64 (chk k2).v.num, .string ⟨(chk k2).v.text.toArray⟩, .slice (chk k2).A (chk k2).n (chk k2).cap] 61)
              have hg := refGreat_any (chk k2) _ (hin2.below hbz)
              unfold Ex.val at hg
              clear hin2
              go_wp2_with fail
              refine hg.mono ?_
              rintro e w4 ⟨⟨y, rfl⟩, b4⟩
              have hb4 := below_in hbz b4
              have aS4 := aSz.below b4 aSz.lt
              cases y with
              | true =>
                go_wp2_with fail
                go_ret
                exact ⟨⟨_, rfl⟩, hb4⟩
              | false =>
                go_wp2_with fail
                exact ⟨⟨k2 + 1, by omega, by go_num, hb4, aS4⟩, by simp [intOf]; omega⟩
            · go_wp2_with fail
              · go_ret
                exact ⟨⟨_, rfl⟩, hby⟩
              · exact ⟨⟨k + 1, _, by omega, by go_num, rfl, hby, aSy⟩, by simp [intOf]; omega⟩
    · have s1 : _ := aSr.cell 1
      have s2 := aSr.cell 2
      clear hT
      have aS2 := aSr
      go_wp2_with fail
      go_loopw [3, 74] (fun nv i wx => ∃ (k' : Nat) (z' : Int), k' ≤ gn ∧ i = .int .i64 k' ∧ nv = .int .i64 z' ∧ Below w.heap.size w wx) (fun _ i _ => gn - (intOf i).toNat)
      case atStart => exact ⟨0, _, by omega, rfl, rfl, hbr⟩
      case round =>
        clear hbr aSr s1 s2 aS2
        obtain ⟨k', z', hk', rfl, rfl, hbx⟩ := hrel
        by_cases hlt' : k' < gn
        · obtain ⟨b', off', rfl, hbl', hc'⟩ := hG.2.2 (by omega)
          obtain ⟨d0, d1, d2⟩ := (hc' k' hlt').keep fun i => hbx.cell (p := ⟨b', i, none⟩) hbl'
          have hco : (gs.getD k' default).Ok := by
            have hl : k' < gs.length := by rw [hG.1]; exact hlt'
            rw [List.getD_eq_getElem?_getD, List.getElem?_eq_getElem hl]
            exact hG.2.1 _ (List.getElem_mem hl)
          have l1 := hco.table
          unfold maxLen at l1
          clear hc' hco
          generalize gs.getD k' default = c at *
          have hby := fun o => hbx.alloc hbx.size o
          go_wp2_with fail
          exact ⟨⟨k' + 1, _, by omega, by go_num, rfl, hby _⟩, by simp [intOf]; omega⟩
        · go_wp2_with fail
          go_ret
          exact ⟨⟨_, rfl⟩, hbx⟩
end Go.Proofs.Yteehccklnidofaa
