/- The walk of the reference's apply: grants that are given. -/
/- The walk of the reference's apply: grants that are taken. -/
import Derived.Test.YtnhalfdddcjicaaGreatQDdN
namespace Go.Proofs.YtnhalfdddcjicaaGreat
open Go.RowKit

set_option maxRecDepth 100000 in
set_option maxHeartbeats 12800000 in
theorem rapply8_any (s : Sc) (role : Int) (st : St) (w : World) (hs : InS w s) (hst : InSt w st) (_hrole : I64 role) (_hwd : wtT st.def_ ≤ 1048576) (_htn : s.tn ≤ 100000) (hsg : SortedG s.grants) (hr : 0 ≤ role ∧ role ≤ 7) (k8 : KindG true st.kind) :
    Calls Tryz.prog 25 #[s.val, .int .i64 role, st.val] w fun e w' => RpE s role st e w' ∧ Below w.heap.size w w' := by
  have HZ : Hid (∀ er w', er ≠ 0 → (∀ X, AppT s role st er X) → RpE s role st (.returned (.tuple #[.agg #[.int .i64 0, .slice none 0 0, .slice none 0 0], .int .i64 er])) w') := by
    show ∀ _, _
    exact fun er w' h1 h2 => ⟨noS, er, rfl, in_noS w', .inl ⟨h1, rfl, h2⟩⟩
  have HF : Hid (∀ o w', InS w' o → AppT s role st 0 (treeS o) → RpE s role st (.returned (.tuple #[o.val, .int .i64 0])) w') := by
    show ∀ _, _
    exact fun o w' h1 h2 => ⟨o, 0, rfl, h1, .inr ⟨rfl, h2⟩⟩
  have b1 := below_box w (.cells #[.int .i64 s.ver, .slice s.tA s.tn s.tcap, .slice s.gA s.gn s.gcap] 25)
  have aS := At.fresh w 25 #[.int .i64 s.ver, .slice s.tA s.tn s.tcap, .slice s.gA s.gn s.gcap]
  obtain ⟨W1, hW1⟩ : ∃ W1, w.alloc (.cells #[.int .i64 s.ver, .slice s.tA s.tn s.tcap, .slice s.gA s.gn s.gcap] 25) = W1 := ⟨_, rfl⟩
  rw [hW1] at b1 aS
  have hz1 : W1.heap.size = w.heap.size + 1 := by rw [← hW1]; simp
  have b2 := below_box W1 (.cells st.cells 34)
  have aT := At.fresh W1 34 st.cells
  obtain ⟨W2, hW2⟩ : ∃ W2, W1.alloc (.cells st.cells 34) = W2 := ⟨_, rfl⟩
  rw [hW2] at b2 aT
  have hz2 : W2.heap.size = w.heap.size + 1 + 1 := by rw [← hW2]; simp [hz1]
  have b3 := below_box W2 (.cells #[.int .i64 0, .slice none 0 0, .slice none 0 0] 25)
  have aR := At.fresh W2 25 #[.int .i64 0, .slice none 0 0, .slice none 0 0]
  obtain ⟨W3, hW3⟩ : ∃ W3, W2.alloc (.cells #[.int .i64 0, .slice none 0 0, .slice none 0 0] 25) = W3 := ⟨_, rfl⟩
  rw [hW3] at b3 aR
  have hz3 : W3.heap.size = w.heap.size + 1 + 1 + 1 := by rw [← hW3]; simp [hz2]
  have aS3 := (aS.below b2 aS.lt).below b3 (aS.below b2 aS.lt).lt
  have aT3 := aT.below b3 aT.lt
  have hb3 := below_in (below_in b1 b2) b3
  rw [hz1] at aT3
  rw [hz2] at aR
  have hWc := Lib.hid (show ((w.alloc (.cells #[.int .i64 s.ver, .slice s.tA s.tn s.tcap, .slice s.gA s.gn s.gcap] 25)).alloc (.cells st.cells 34)).alloc (.cells #[.int .i64 0, .slice none 0 0, .slice none 0 0] 25) = W3 by rw [hW1, hW2, hW3])
  clear hW1 hW2 hW3 aS aT b1 b2 b3
  obtain ⟨s0, s1, s2⟩ := aS3.tri0
  obtain ⟨r0, r1, r2⟩ := aR.tri0
  have y0 := aR.unfrozen 0
  have y1 := aR.unfrozen 1
  have y2 := aR.unfrozen 2
  have hfin0 := fun x y z => below_set3 (g := w.heap.size + 1 + 1) hb3 (by omega) x y z
  have HVAL : Hid (st.val = .agg st.cells) := rfl
  unfold Sc.val
  rw [HVAL.out]
  have hvI := i64_next s.ver
  have hvn : IntKind.i64.wrap (s.ver + 1) = vnext s.ver := rfl
  obtain ⟨vn, hvn2⟩ : ∃ vn, vnext s.ver = vn := ⟨_, rfl⟩
  rw [hvn2] at hvn hvI
  have HVN := Lib.hid hvn2
  clear hvn2 s0 s1 s2 r0 r1 r2 y0 y1 y2 hfin0
  have b4 := below_box W3 (.cells #[.int .i64 vn, .slice none 0 0, .slice none 0 0] 25)
  have aO := At.fresh W3 25 #[.int .i64 vn, .slice none 0 0, .slice none 0 0]
  obtain ⟨W4, hW4⟩ : ∃ W4, W3.alloc (.cells #[.int .i64 vn, .slice none 0 0, .slice none 0 0] 25) = W4 := ⟨_, rfl⟩
  rw [hW4] at b4 aO
  have hz4 : W4.heap.size = w.heap.size + 1 + 1 + 1 + 1 := by rw [← hW4]; simp [hz3]
  have aS4 := aS3.below b4 aS3.lt
  have aT4 := aT3.below b4 aT3.lt
  have aR4 := aR.below b4 aR.lt
  have hb4 := below_in hb3 b4
  rw [hz3] at aO
  have hkc := aT4.stmt.c0
  have htc := aT4.stmt.c1
  obtain ⟨-, -, -, -, -, -, -, -, -, -, -, -, -, d13, d14, d15, d16, -, -⟩ := aT4.stmt
  obtain ⟨s0, s1, s2⟩ := aS4.tri0
  obtain ⟨s0', -, -⟩ := aS3.tri0
  obtain ⟨p0, p1, p2⟩ := aO.tri0
  have hr0 : ¬ role < 0 := by omega
  have hr7 : ¬ 7 < role := by omega
  have e3 := hWc.out
  clear hWc
  subst e3
  have n6 : (st.kind == 6) = false := by rw [show st.kind = 8 from k8]; rfl
  have n7 : (st.kind == 7) = false := by rw [show st.kind = 8 from k8]; rfl
  rw [show st.kind = 8 from k8] at hkc
  have hFc := refFind_any s st.table _ (hs.below hb4)
  rw [firstI_of] at hFc
  have hOw := fun w1 (b : Below w.heap.size w w1) => rowns_any s role st.table w1 (hs.below b)
  unfold Sc.val at hFc hOw
  cases hf : tabAt s st.table with
  | none =>
    rw [hf] at hFc
    simp only at hFc
    have HAT := Lib.hid (fun (w' : World) (h : At w' (w.heap.size + 1) 34 st.cells) => h.stmt.c1)
    clear hOw
    subst hW4
    go_enter Tryz.func25, Tryz.ntmps25
    go_wp2_with fail
    refine hFc.mono ?_
    rintro e w5 ⟨rfl, b5⟩
    have hb5 := below_in hb4 b5
    have aR5 := aR4.below b5 aR4.lt
    clear hFc s0 s1 s2 s0' p0 p1 p2 hkc htc d13 d14 d15 d16 hb3 hb4 b4 b5 aR aO aS3 aT3 aS4 aT4 aR4
    obtain ⟨r0, r1, r2⟩ := aR5.tri0
    have y0 := aR5.unfrozen 0
    have y1 := aR5.unfrozen 1
    have y2 := aR5.unfrozen 2
    have hfin := fun x y z => below_set3 (g := w.heap.size + 1 + 1) hb5 (by omega) x y z
    have HX := Lib.hid (fun w' => HZ.out 8 w' (by decide) (fun X => .inr ⟨hr, .inr (.inr (.inr ⟨true, k8, .inl ⟨by decide, .inl ⟨hf, rfl⟩⟩⟩))⟩))
    clear HZ HF hs hst
    go_wp2_with fail
    exact bodyPost_ret (v := .tuple #[.agg #[.int .i64 0, .slice none 0 0, .slice none 0 0], .int .i64 8]) (by simp [results, Tryz.results25, go_sem, r0, r1, r2]) rfl ⟨HX.out _, hfin _ _ _⟩
  | some j =>
    rw [hf] at hFc
    simp only at hFc
    have hne : tabAt s st.table ≠ none := by rw [hf]; intro e; cases e
    have HNE := Lib.hid hne
    have HFT := Lib.hid hf
    have hj0 : ¬ ((j : Int) < 0) := by omega
    clear hne hf
    subst hW4
    go_enter Tryz.func25, Tryz.ntmps25
    go_wp2_with fail
    refine hFc.mono ?_
    rintro e w5 ⟨rfl, b5⟩
    have hb5 := below_in hb4 b5
    have aR5 := aR4.below b5 aR4.lt
    have aS5 := aS4.below b5 aS4.lt
    have aT5 := aT4.below b5 aT4.lt
    have aO5 := aO.below b5 aO.lt
    have hz5 := b5.size
    have hOc := hOw _ hb5
    clear hFc s0 s1 s2 s0' p0 p1 p2 hkc htc d13 d14 d15 d16 hb3 hb4 b4 b5 aR aO aS3 aT3 aS4 aT4 aR4 hOw
    obtain ⟨s0, s1, s2⟩ := aS5.tri0
    have htc := aT5.stmt.c1
    go_wp2_with fail
    refine hOc.mono ?_
    rintro e w6 ⟨rfl, b6⟩
    have hb6 := below_in hb5 b6
    have aR6 := aR5.below b6 aR5.lt
    have aS6 := aS5.below b6 aS5.lt
    have aT6 := aT5.below b6 aT5.lt
    have aO6 := aO5.below b6 aO5.lt
    have hz6 := b6.size
    clear hOc s0 s1 s2 htc aR5 aS5 aT5 aO5 hb5 b6
    cases ho : ownsS s role st.table with
    | false =>
      obtain ⟨r0, r1, r2⟩ := aR6.tri0
      have y0 := aR6.unfrozen 0
      have y1 := aR6.unfrozen 1
      have y2 := aR6.unfrozen 2
      have hfin := fun x y z => below_set3 (g := w.heap.size + 1 + 1) hb6 (by omega) x y z
      have HX := Lib.hid (fun w' => HZ.out 14 w' (by decide) (fun X => .inr ⟨hr, .inr (.inr (.inr ⟨true, k8, .inl ⟨by decide, .inr ⟨HNE.out, .inl ⟨ho, rfl⟩⟩⟩⟩))⟩))
      clear HZ HF hs hst
      go_wp2_with fail
      exact bodyPost_ret (v := .tuple #[.agg #[.int .i64 0, .slice none 0 0, .slice none 0 0], .int .i64 14]) (by simp [results, Tryz.results25, go_sem, r0, r1, r2]) rfl ⟨HX.out _, hfin _ _ _⟩
    | true =>
      have HO : Hid (ErrO s role st.table 0) := .inr ⟨HNE.out, .inr ⟨ho, rfl⟩⟩
      have hn64 : s.gn ≤ 64 := by rw [← hs.grants.1]; exact hsg.1
      have hGv := rgive_any s.gA s.gn s.gcap s.grants st w6 true k8 (hs.grants.below hb6) hsg (hst.below hb6) hn64
      have hGOK := Lib.hid (fun er gs' (h : GiveR true s.grants st.gr er gs') => And.intro (give_len h) (give_ok h hs.grants.2.1 (gr_ok hst)))
      rw [HVAL.out] at hGv
      have hgl : s.grants.length ≤ 64 := hsg.1
      obtain ⟨s0, s1, s2⟩ := aS6.tri0
      have hkc := aT6.stmt.c0
      rw [show st.kind = 8 from k8] at hkc
      clear ho
      go_wp2_with (refine wpList_load_st rfl (.tmp 5) rfl (w.heap.size + 1) st rfl aT6 ?_)
      refine hGv.mono ?_
      rintro e w7 ⟨⟨gv, er, gs', rfl, hgo, hgr⟩, b7⟩
      have hb7 := below_in hb6 b7
      have aR7 := aR6.below b7 aR6.lt
      have aS7 := aS6.below b7 aS6.lt
      have aO7 := aO6.below b7 aO6.lt
      have hz7 := b7.size
      obtain ⟨k1, k2⟩ := hGOK.out er gs' hgr
      obtain ⟨A', c', rfl, hrow, -⟩ := own_rowG hgo k2
      clear hGv s0 s1 s2 hkc aT6 aR6 aS6 aO6 hb6 b7
      by_cases her : er = 0
      · subst her
        obtain ⟨s0, s1, s2⟩ := aS7.tri0
        obtain ⟨o0, o1, o2⟩ := aO7.tri0
        have of1 := aO7.unfrozen 1
        have aO8 : At (w7.setCell ⟨w.heap.size + 1 + 1 + 1, 1, none⟩ (.slice s.tA s.tn s.tcap)) (w.heap.size + 1 + 1 + 1) 25 #[.int .i64 vn, .slice s.tA s.tn s.tcap, .slice none 0 0] := aO7.put 1 _
        have of2 := aO8.unfrozen 2
        have aR8 := aR7.elsewhere (p := ⟨w.heap.size + 1 + 1 + 1, 1, none⟩) (by simp) (.slice s.tA s.tn s.tcap)
        have hb8 := hb7.setCell (p := ⟨w.heap.size + 1 + 1 + 1, 1, none⟩) (by show w.heap.size ≤ w.heap.size + 1 + 1 + 1; omega) (.slice s.tA s.tn s.tcap)
        have o2' : (w7.setCell ⟨w.heap.size + 1 + 1 + 1, 1, none⟩ (.slice s.tA s.tn s.tcap)).cell? ⟨w.heap.size + 1 + 1 + 1, 2, none⟩ = some (.slice none 0 0) := aO8.cell 2
        have aO9 : At ((w7.setCell ⟨w.heap.size + 1 + 1 + 1, 1, none⟩ (.slice s.tA s.tn s.tcap)).setCell ⟨w.heap.size + 1 + 1 + 1, 2, none⟩ (.slice A' gs'.length c')) (w.heap.size + 1 + 1 + 1) 25 #[.int .i64 vn, .slice s.tA s.tn s.tcap, .slice A' gs'.length c'] := aO8.put 2 _
        have aR9 := aR8.elsewhere (p := ⟨w.heap.size + 1 + 1 + 1, 2, none⟩) (by simp) (.slice A' gs'.length c')
        have hb9 := hb8.setCell (p := ⟨w.heap.size + 1 + 1 + 1, 2, none⟩) (by show w.heap.size ≤ w.heap.size + 1 + 1 + 1; omega) (.slice A' gs'.length c')
        obtain ⟨x0, x1, x2⟩ := aO9.tri0
        obtain ⟨r0, r1, r2⟩ := aR9.tri0
        have y0 := aR9.unfrozen 0
        have y1 := aR9.unfrozen 1
        have y2 := aR9.unfrozen 2
        have hfin := fun x y z => below_set3 (g := w.heap.size + 1 + 1) hb9 (by omega) x y z
        have HROW : Hid (∀ x y z, RowG (((((w7.setCell ⟨w.heap.size + 1 + 1 + 1, 1, none⟩ (.slice s.tA s.tn s.tcap)).setCell ⟨w.heap.size + 1 + 1 + 1, 2, none⟩ (.slice A' gs'.length c')).setCell ⟨w.heap.size + 1 + 1, 0, none⟩ x).setCell ⟨w.heap.size + 1 + 1, 1, none⟩ y).setCell ⟨w.heap.size + 1 + 1, 2, none⟩ z) A' gs'.length gs') := by
          show ∀ _, _
          intro x y z
          have := own_move (base' := w6.heap.size) hgo (w' := ((((w7.setCell ⟨w.heap.size + 1 + 1 + 1, 1, none⟩ (.slice s.tA s.tn s.tcap)).setCell ⟨w.heap.size + 1 + 1 + 1, 2, none⟩ (.slice A' gs'.length c')).setCell ⟨w.heap.size + 1 + 1, 0, none⟩ x).setCell ⟨w.heap.size + 1 + 1, 1, none⟩ y).setCell ⟨w.heap.size + 1 + 1, 2, none⟩ z) (fun b hb _ => (Below.heap_setCell _ _ _ _ (fun e : b = w.heap.size + 1 + 1 => by omega)).trans ((Below.heap_setCell _ _ _ _ (fun e : b = w.heap.size + 1 + 1 => by omega)).trans ((Below.heap_setCell _ _ _ _ (fun e : b = w.heap.size + 1 + 1 => by omega)).trans ((Below.heap_setCell _ _ _ _ (fun e : b = w.heap.size + 1 + 1 + 1 => by omega)).trans (Below.heap_setCell _ _ _ _ (fun e : b = w.heap.size + 1 + 1 + 1 => by omega)))))) (Nat.le_refl _)
          obtain ⟨A2, c2, e, hr2, -⟩ := own_rowG this k2
          injection e with e1 e2 e3
          rw [← e1] at hr2
          exact hr2
        have HX := Lib.hid (fun w' (hbw : Below w.heap.size w w') (hrow : RowG w' A' gs'.length gs') => rp_give (w' := w') (c' := c') HF.out hs hr k8 HO.out hgr HVN.out hvI (by omega) hbw hrow)
        clear HF HZ hgo hgr hrow k2 hs hst
        go_wp2_with fail
        refine bodyPost_ret (v := .tuple #[.agg #[.int .i64 vn, .slice s.tA s.tn s.tcap, .slice A' gs'.length c'], .int .i64 0]) (by simp [results, Tryz.results25, go_sem, r0, r1, r2]) rfl ⟨HX.out _ (hfin _ _ _) (HROW.out _ _ _), hfin _ _ _⟩
      · have her2 : (er != 0) = true := by simpa using her
        obtain ⟨r0, r1, r2⟩ := aR7.tri0
        have y0 := aR7.unfrozen 0
        have y1 := aR7.unfrozen 1
        have y2 := aR7.unfrozen 2
        have hfin := fun x y z => below_set3 (g := w.heap.size + 1 + 1) hb7 (by omega) x y z
        have HX := Lib.hid (fun w' => HZ.out er w' her (fun X => .inr ⟨hr, .inr (.inr (.inr ⟨true, k8, .inr ⟨HO.out, gs', hgr, fun h => absurd h her⟩⟩))⟩))
        clear HZ HF hs hst hgo hrow k2
        go_wp2_with fail
        exact bodyPost_ret (v := .tuple #[.agg #[.int .i64 0, .slice none 0 0, .slice none 0 0], .int .i64 er]) (by simp [results, Tryz.results25, go_sem, r0, r1, r2]) rfl ⟨HX.out _, hfin _ _ _⟩
end Go.Proofs.YtnhalfdddcjicaaGreat

namespace Go.Proofs.YtnhalfdddcjicaaGreat
open Go.RowKit

set_option maxRecDepth 100000 in
set_option maxHeartbeats 12800000 in
theorem rapply9_any (s : Sc) (role : Int) (st : St) (w : World) (hs : InS w s) (hst : InSt w st) (_hrole : I64 role) (_hwd : wtT st.def_ ≤ 1048576) (_htn : s.tn ≤ 100000) (hsg : SortedG s.grants) (hr : 0 ≤ role ∧ role ≤ 7) (k9 : KindG false st.kind) :
    Calls Tryz.prog 25 #[s.val, .int .i64 role, st.val] w fun e w' => RpE s role st e w' ∧ Below w.heap.size w w' := by
  have HZ : Hid (∀ er w', er ≠ 0 → (∀ X, AppT s role st er X) → RpE s role st (.returned (.tuple #[.agg #[.int .i64 0, .slice none 0 0, .slice none 0 0], .int .i64 er])) w') := by
    show ∀ _, _
    exact fun er w' h1 h2 => ⟨noS, er, rfl, in_noS w', .inl ⟨h1, rfl, h2⟩⟩
  have HF : Hid (∀ o w', InS w' o → AppT s role st 0 (treeS o) → RpE s role st (.returned (.tuple #[o.val, .int .i64 0])) w') := by
    show ∀ _, _
    exact fun o w' h1 h2 => ⟨o, 0, rfl, h1, .inr ⟨rfl, h2⟩⟩
  have b1 := below_box w (.cells #[.int .i64 s.ver, .slice s.tA s.tn s.tcap, .slice s.gA s.gn s.gcap] 25)
  have aS := At.fresh w 25 #[.int .i64 s.ver, .slice s.tA s.tn s.tcap, .slice s.gA s.gn s.gcap]
  obtain ⟨W1, hW1⟩ : ∃ W1, w.alloc (.cells #[.int .i64 s.ver, .slice s.tA s.tn s.tcap, .slice s.gA s.gn s.gcap] 25) = W1 := ⟨_, rfl⟩
  rw [hW1] at b1 aS
  have hz1 : W1.heap.size = w.heap.size + 1 := by rw [← hW1]; simp
  have b2 := below_box W1 (.cells st.cells 34)
  have aT := At.fresh W1 34 st.cells
  obtain ⟨W2, hW2⟩ : ∃ W2, W1.alloc (.cells st.cells 34) = W2 := ⟨_, rfl⟩
  rw [hW2] at b2 aT
  have hz2 : W2.heap.size = w.heap.size + 1 + 1 := by rw [← hW2]; simp [hz1]
  have b3 := below_box W2 (.cells #[.int .i64 0, .slice none 0 0, .slice none 0 0] 25)
  have aR := At.fresh W2 25 #[.int .i64 0, .slice none 0 0, .slice none 0 0]
  obtain ⟨W3, hW3⟩ : ∃ W3, W2.alloc (.cells #[.int .i64 0, .slice none 0 0, .slice none 0 0] 25) = W3 := ⟨_, rfl⟩
  rw [hW3] at b3 aR
  have hz3 : W3.heap.size = w.heap.size + 1 + 1 + 1 := by rw [← hW3]; simp [hz2]
  have aS3 := (aS.below b2 aS.lt).below b3 (aS.below b2 aS.lt).lt
  have aT3 := aT.below b3 aT.lt
  have hb3 := below_in (below_in b1 b2) b3
  rw [hz1] at aT3
  rw [hz2] at aR
  have hWc := Lib.hid (show ((w.alloc (.cells #[.int .i64 s.ver, .slice s.tA s.tn s.tcap, .slice s.gA s.gn s.gcap] 25)).alloc (.cells st.cells 34)).alloc (.cells #[.int .i64 0, .slice none 0 0, .slice none 0 0] 25) = W3 by rw [hW1, hW2, hW3])
  clear hW1 hW2 hW3 aS aT b1 b2 b3
  obtain ⟨s0, s1, s2⟩ := aS3.tri0
  obtain ⟨r0, r1, r2⟩ := aR.tri0
  have y0 := aR.unfrozen 0
  have y1 := aR.unfrozen 1
  have y2 := aR.unfrozen 2
  have hfin0 := fun x y z => below_set3 (g := w.heap.size + 1 + 1) hb3 (by omega) x y z
  have HVAL : Hid (st.val = .agg st.cells) := rfl
  unfold Sc.val
  rw [HVAL.out]
  have hvI := i64_next s.ver
  have hvn : IntKind.i64.wrap (s.ver + 1) = vnext s.ver := rfl
  obtain ⟨vn, hvn2⟩ : ∃ vn, vnext s.ver = vn := ⟨_, rfl⟩
  rw [hvn2] at hvn hvI
  have HVN := Lib.hid hvn2
  clear hvn2 s0 s1 s2 r0 r1 r2 y0 y1 y2 hfin0
  have b4 := below_box W3 (.cells #[.int .i64 vn, .slice none 0 0, .slice none 0 0] 25)
  have aO := At.fresh W3 25 #[.int .i64 vn, .slice none 0 0, .slice none 0 0]
  obtain ⟨W4, hW4⟩ : ∃ W4, W3.alloc (.cells #[.int .i64 vn, .slice none 0 0, .slice none 0 0] 25) = W4 := ⟨_, rfl⟩
  rw [hW4] at b4 aO
  have hz4 : W4.heap.size = w.heap.size + 1 + 1 + 1 + 1 := by rw [← hW4]; simp [hz3]
  have aS4 := aS3.below b4 aS3.lt
  have aT4 := aT3.below b4 aT3.lt
  have aR4 := aR.below b4 aR.lt
  have hb4 := below_in hb3 b4
  rw [hz3] at aO
  have hkc := aT4.stmt.c0
  have htc := aT4.stmt.c1
  obtain ⟨-, -, -, -, -, -, -, -, -, -, -, -, -, d13, d14, d15, d16, -, -⟩ := aT4.stmt
  obtain ⟨s0, s1, s2⟩ := aS4.tri0
  obtain ⟨s0', -, -⟩ := aS3.tri0
  obtain ⟨p0, p1, p2⟩ := aO.tri0
  have hr0 : ¬ role < 0 := by omega
  have hr7 : ¬ 7 < role := by omega
  have e3 := hWc.out
  clear hWc
  subst e3
  have n6 : (st.kind == 6) = false := by rw [show st.kind = 9 from k9]; rfl
  have n7 : (st.kind == 7) = false := by rw [show st.kind = 9 from k9]; rfl
  have n8 : (st.kind == 8) = false := by rw [show st.kind = 9 from k9]; rfl
  rw [show st.kind = 9 from k9] at hkc
  have hFc := refFind_any s st.table _ (hs.below hb4)
  rw [firstI_of] at hFc
  have hOw := fun w1 (b : Below w.heap.size w w1) => rowns_any s role st.table w1 (hs.below b)
  unfold Sc.val at hFc hOw
  cases hf : tabAt s st.table with
  | none =>
    rw [hf] at hFc
    simp only at hFc
    have HAT := Lib.hid (fun (w' : World) (h : At w' (w.heap.size + 1) 34 st.cells) => h.stmt.c1)
    clear hOw
    subst hW4
    go_enter Tryz.func25, Tryz.ntmps25
    go_wp2_with fail
    refine hFc.mono ?_
    rintro e w5 ⟨rfl, b5⟩
    have hb5 := below_in hb4 b5
    have aR5 := aR4.below b5 aR4.lt
    clear hFc s0 s1 s2 s0' p0 p1 p2 hkc htc d13 d14 d15 d16 hb3 hb4 b4 b5 aR aO aS3 aT3 aS4 aT4 aR4
    obtain ⟨r0, r1, r2⟩ := aR5.tri0
    have y0 := aR5.unfrozen 0
    have y1 := aR5.unfrozen 1
    have y2 := aR5.unfrozen 2
    have hfin := fun x y z => below_set3 (g := w.heap.size + 1 + 1) hb5 (by omega) x y z
    have HX := Lib.hid (fun w' => HZ.out 8 w' (by decide) (fun X => .inr ⟨hr, .inr (.inr (.inr ⟨false, k9, .inl ⟨by decide, .inl ⟨hf, rfl⟩⟩⟩))⟩))
    clear HZ HF hs hst
    go_wp2_with fail
    exact bodyPost_ret (v := .tuple #[.agg #[.int .i64 0, .slice none 0 0, .slice none 0 0], .int .i64 8]) (by simp [results, Tryz.results25, go_sem, r0, r1, r2]) rfl ⟨HX.out _, hfin _ _ _⟩
  | some j =>
    rw [hf] at hFc
    simp only at hFc
    have hne : tabAt s st.table ≠ none := by rw [hf]; intro e; cases e
    have HNE := Lib.hid hne
    have HFT := Lib.hid hf
    have hj0 : ¬ ((j : Int) < 0) := by omega
    clear hne hf
    subst hW4
    go_enter Tryz.func25, Tryz.ntmps25
    go_wp2_with fail
    refine hFc.mono ?_
    rintro e w5 ⟨rfl, b5⟩
    have hb5 := below_in hb4 b5
    have aR5 := aR4.below b5 aR4.lt
    have aS5 := aS4.below b5 aS4.lt
    have aT5 := aT4.below b5 aT4.lt
    have aO5 := aO.below b5 aO.lt
    have hz5 := b5.size
    have hOc := hOw _ hb5
    clear hFc s0 s1 s2 s0' p0 p1 p2 hkc htc d13 d14 d15 d16 hb3 hb4 b4 b5 aR aO aS3 aT3 aS4 aT4 aR4 hOw
    obtain ⟨s0, s1, s2⟩ := aS5.tri0
    have htc := aT5.stmt.c1
    go_wp2_with fail
    refine hOc.mono ?_
    rintro e w6 ⟨rfl, b6⟩
    have hb6 := below_in hb5 b6
    have aR6 := aR5.below b6 aR5.lt
    have aS6 := aS5.below b6 aS5.lt
    have aT6 := aT5.below b6 aT5.lt
    have aO6 := aO5.below b6 aO5.lt
    have hz6 := b6.size
    clear hOc s0 s1 s2 htc aR5 aS5 aT5 aO5 hb5 b6
    cases ho : ownsS s role st.table with
    | false =>
      obtain ⟨r0, r1, r2⟩ := aR6.tri0
      have y0 := aR6.unfrozen 0
      have y1 := aR6.unfrozen 1
      have y2 := aR6.unfrozen 2
      have hfin := fun x y z => below_set3 (g := w.heap.size + 1 + 1) hb6 (by omega) x y z
      have HX := Lib.hid (fun w' => HZ.out 14 w' (by decide) (fun X => .inr ⟨hr, .inr (.inr (.inr ⟨false, k9, .inl ⟨by decide, .inr ⟨HNE.out, .inl ⟨ho, rfl⟩⟩⟩⟩))⟩))
      clear HZ HF hs hst
      go_wp2_with fail
      exact bodyPost_ret (v := .tuple #[.agg #[.int .i64 0, .slice none 0 0, .slice none 0 0], .int .i64 14]) (by simp [results, Tryz.results25, go_sem, r0, r1, r2]) rfl ⟨HX.out _, hfin _ _ _⟩
    | true =>
      have HO : Hid (ErrO s role st.table 0) := .inr ⟨HNE.out, .inr ⟨ho, rfl⟩⟩
      have hn64 : s.gn ≤ 64 := by rw [← hs.grants.1]; exact hsg.1
      have hGv := rgive_any s.gA s.gn s.gcap s.grants st w6 false k9 (hs.grants.below hb6) hsg (hst.below hb6) hn64
      have hGOK := Lib.hid (fun er gs' (h : GiveR false s.grants st.gr er gs') => And.intro (give_len h) (give_ok h hs.grants.2.1 (gr_ok hst)))
      rw [HVAL.out] at hGv
      have hgl : s.grants.length ≤ 64 := hsg.1
      obtain ⟨s0, s1, s2⟩ := aS6.tri0
      have hkc := aT6.stmt.c0
      rw [show st.kind = 9 from k9] at hkc
      clear ho
      go_wp2_with (refine wpList_load_st rfl (.tmp 5) rfl (w.heap.size + 1) st rfl aT6 ?_)
      refine hGv.mono ?_
      rintro e w7 ⟨⟨gv, er, gs', rfl, hgo, hgr⟩, b7⟩
      have hb7 := below_in hb6 b7
      have aR7 := aR6.below b7 aR6.lt
      have aS7 := aS6.below b7 aS6.lt
      have aO7 := aO6.below b7 aO6.lt
      have hz7 := b7.size
      obtain ⟨k1, k2⟩ := hGOK.out er gs' hgr
      obtain ⟨A', c', rfl, hrow, -⟩ := own_rowG hgo k2
      clear hGv s0 s1 s2 hkc aT6 aR6 aS6 aO6 hb6 b7
      by_cases her : er = 0
      · subst her
        obtain ⟨s0, s1, s2⟩ := aS7.tri0
        obtain ⟨o0, o1, o2⟩ := aO7.tri0
        have of1 := aO7.unfrozen 1
        have aO8 : At (w7.setCell ⟨w.heap.size + 1 + 1 + 1, 1, none⟩ (.slice s.tA s.tn s.tcap)) (w.heap.size + 1 + 1 + 1) 25 #[.int .i64 vn, .slice s.tA s.tn s.tcap, .slice none 0 0] := aO7.put 1 _
        have of2 := aO8.unfrozen 2
        have aR8 := aR7.elsewhere (p := ⟨w.heap.size + 1 + 1 + 1, 1, none⟩) (by simp) (.slice s.tA s.tn s.tcap)
        have hb8 := hb7.setCell (p := ⟨w.heap.size + 1 + 1 + 1, 1, none⟩) (by show w.heap.size ≤ w.heap.size + 1 + 1 + 1; omega) (.slice s.tA s.tn s.tcap)
        have o2' : (w7.setCell ⟨w.heap.size + 1 + 1 + 1, 1, none⟩ (.slice s.tA s.tn s.tcap)).cell? ⟨w.heap.size + 1 + 1 + 1, 2, none⟩ = some (.slice none 0 0) := aO8.cell 2
        have aO9 : At ((w7.setCell ⟨w.heap.size + 1 + 1 + 1, 1, none⟩ (.slice s.tA s.tn s.tcap)).setCell ⟨w.heap.size + 1 + 1 + 1, 2, none⟩ (.slice A' gs'.length c')) (w.heap.size + 1 + 1 + 1) 25 #[.int .i64 vn, .slice s.tA s.tn s.tcap, .slice A' gs'.length c'] := aO8.put 2 _
        have aR9 := aR8.elsewhere (p := ⟨w.heap.size + 1 + 1 + 1, 2, none⟩) (by simp) (.slice A' gs'.length c')
        have hb9 := hb8.setCell (p := ⟨w.heap.size + 1 + 1 + 1, 2, none⟩) (by show w.heap.size ≤ w.heap.size + 1 + 1 + 1; omega) (.slice A' gs'.length c')
        obtain ⟨x0, x1, x2⟩ := aO9.tri0
        obtain ⟨r0, r1, r2⟩ := aR9.tri0
        have y0 := aR9.unfrozen 0
        have y1 := aR9.unfrozen 1
        have y2 := aR9.unfrozen 2
        have hfin := fun x y z => below_set3 (g := w.heap.size + 1 + 1) hb9 (by omega) x y z
        have HROW : Hid (∀ x y z, RowG (((((w7.setCell ⟨w.heap.size + 1 + 1 + 1, 1, none⟩ (.slice s.tA s.tn s.tcap)).setCell ⟨w.heap.size + 1 + 1 + 1, 2, none⟩ (.slice A' gs'.length c')).setCell ⟨w.heap.size + 1 + 1, 0, none⟩ x).setCell ⟨w.heap.size + 1 + 1, 1, none⟩ y).setCell ⟨w.heap.size + 1 + 1, 2, none⟩ z) A' gs'.length gs') := by
          show ∀ _, _
          intro x y z
          have := own_move (base' := w6.heap.size) hgo (w' := ((((w7.setCell ⟨w.heap.size + 1 + 1 + 1, 1, none⟩ (.slice s.tA s.tn s.tcap)).setCell ⟨w.heap.size + 1 + 1 + 1, 2, none⟩ (.slice A' gs'.length c')).setCell ⟨w.heap.size + 1 + 1, 0, none⟩ x).setCell ⟨w.heap.size + 1 + 1, 1, none⟩ y).setCell ⟨w.heap.size + 1 + 1, 2, none⟩ z) (fun b hb _ => (Below.heap_setCell _ _ _ _ (fun e : b = w.heap.size + 1 + 1 => by omega)).trans ((Below.heap_setCell _ _ _ _ (fun e : b = w.heap.size + 1 + 1 => by omega)).trans ((Below.heap_setCell _ _ _ _ (fun e : b = w.heap.size + 1 + 1 => by omega)).trans ((Below.heap_setCell _ _ _ _ (fun e : b = w.heap.size + 1 + 1 + 1 => by omega)).trans (Below.heap_setCell _ _ _ _ (fun e : b = w.heap.size + 1 + 1 + 1 => by omega)))))) (Nat.le_refl _)
          obtain ⟨A2, c2, e, hr2, -⟩ := own_rowG this k2
          injection e with e1 e2 e3
          rw [← e1] at hr2
          exact hr2
        have HX := Lib.hid (fun w' (hbw : Below w.heap.size w w') (hrow : RowG w' A' gs'.length gs') => rp_give (w' := w') (c' := c') HF.out hs hr k9 HO.out hgr HVN.out hvI (by omega) hbw hrow)
        clear HF HZ hgo hgr hrow k2 hs hst
        go_wp2_with fail
        refine bodyPost_ret (v := .tuple #[.agg #[.int .i64 vn, .slice s.tA s.tn s.tcap, .slice A' gs'.length c'], .int .i64 0]) (by simp [results, Tryz.results25, go_sem, r0, r1, r2]) rfl ⟨HX.out _ (hfin _ _ _) (HROW.out _ _ _), hfin _ _ _⟩
      · have her2 : (er != 0) = true := by simpa using her
        obtain ⟨r0, r1, r2⟩ := aR7.tri0
        have y0 := aR7.unfrozen 0
        have y1 := aR7.unfrozen 1
        have y2 := aR7.unfrozen 2
        have hfin := fun x y z => below_set3 (g := w.heap.size + 1 + 1) hb7 (by omega) x y z
        have HX := Lib.hid (fun w' => HZ.out er w' her (fun X => .inr ⟨hr, .inr (.inr (.inr ⟨false, k9, .inr ⟨HO.out, gs', hgr, fun h => absurd h her⟩⟩))⟩))
        clear HZ HF hs hst hgo hrow k2
        go_wp2_with fail
        exact bodyPost_ret (v := .tuple #[.agg #[.int .i64 0, .slice none 0 0, .slice none 0 0], .int .i64 er]) (by simp [results, Tryz.results25, go_sem, r0, r1, r2]) rfl ⟨HX.out _, hfin _ _ _⟩
end Go.Proofs.YtnhalfdddcjicaaGreat
