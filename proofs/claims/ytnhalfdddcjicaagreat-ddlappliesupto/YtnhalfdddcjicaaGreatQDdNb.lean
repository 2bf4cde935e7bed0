/- The walk of the reference's apply: a table that is dropped. -/
import Derived.Test.YtnhalfdddcjicaaGreatQDdN
namespace Go.Proofs.YtnhalfdddcjicaaGreat
open Go.RowKit

set_option maxRecDepth 100000 in
set_option maxHeartbeats 12800000 in
theorem rapply7_any (s : Sc) (role : Int) (st : St) (w : World) (hs : InS w s) (_hst : InSt w st) (_hrole : I64 role) (_hwd : wtT st.def_ ≤ 1048576) (htn : s.tn ≤ 100000) (hsg : SortedG s.grants) (hr : 0 ≤ role ∧ role ≤ 7) (k7 : st.kind = 7) :
    Calls Tryz.prog 25 #[s.val, .int .i64 role, st.val] w fun e w' => RpE s role st e w' ∧ Below w.heap.size w w' := by
  have HZ : Hid (∀ er w', er ≠ 0 → (∀ X, AppT s role st er X) → RpE s role st (.returned (.tuple #[.agg #[.int .i64 0, .slice none 0 0, .slice none 0 0], .int .i64 er])) w') := by
    show ∀ _, _
    exact fun er w' h1 h2 => ⟨noS, er, rfl, in_noS w', .inl ⟨h1, rfl, h2⟩⟩
  have HF : Hid (∀ o w', InS w' o → AppT s role st 0 (treeS o) → RpE s role st (.returned (.tuple #[o.val, .int .i64 0])) w') := by
    show ∀ _, _
    exact fun o w' h1 h2 => ⟨o, 0, rfl, h1, .inr ⟨rfl, h2⟩⟩
  have b1 := below_box w (.cells #[.int .i64 s.ver, .slice s.tA s.tn s.tcap, .slice s.gA s.gn s.gcap] 25)
  have aS := At.fresh w 25 #[.int .i64 s.ver, .slice s.tA s.tn s.tcap, .slice s.gA s.gn s.gcap]
  obtain ⟨W1, hW1⟩ : ∃ W1, w.alloc (.cells #[.int .i64 s.ver, .slice s.tA s.tn s.tcap, .slice s.gA s.gn s.gcap] 25) = W1 := ⟨_, rfl⟩
  rw [hW1] at b1 aS
  have hz1 : W1.heap.size = w.heap.size + 1 := by rw [← hW1]; simp
  have b2 := below_box W1 (.cells st.cells 34)
  have aT := At.fresh W1 34 st.cells
  obtain ⟨W2, hW2⟩ : ∃ W2, W1.alloc (.cells st.cells 34) = W2 := ⟨_, rfl⟩
  rw [hW2] at b2 aT
  have hz2 : W2.heap.size = w.heap.size + 1 + 1 := by rw [← hW2]; simp [hz1]
  have b3 := below_box W2 (.cells #[.int .i64 0, .slice none 0 0, .slice none 0 0] 25)
  have aR := At.fresh W2 25 #[.int .i64 0, .slice none 0 0, .slice none 0 0]
  obtain ⟨W3, hW3⟩ : ∃ W3, W2.alloc (.cells #[.int .i64 0, .slice none 0 0, .slice none 0 0] 25) = W3 := ⟨_, rfl⟩
  rw [hW3] at b3 aR
  have hz3 : W3.heap.size = w.heap.size + 1 + 1 + 1 := by rw [← hW3]; simp [hz2]
  have aS3 := (aS.below b2 aS.lt).below b3 (aS.below b2 aS.lt).lt
  have aT3 := aT.below b3 aT.lt
  have hb3 := below_in (below_in b1 b2) b3
  rw [hz1] at aT3
  rw [hz2] at aR
  have hWc := Lib.hid (show ((w.alloc (.cells #[.int .i64 s.ver, .slice s.tA s.tn s.tcap, .slice s.gA s.gn s.gcap] 25)).alloc (.cells st.cells 34)).alloc (.cells #[.int .i64 0, .slice none 0 0, .slice none 0 0] 25) = W3 by rw [hW1, hW2, hW3])
  clear hW1 hW2 hW3 aS aT b1 b2 b3
  obtain ⟨s0, s1, s2⟩ := aS3.tri0
  obtain ⟨r0, r1, r2⟩ := aR.tri0
  have y0 := aR.unfrozen 0
  have y1 := aR.unfrozen 1
  have y2 := aR.unfrozen 2
  have hfin0 := fun x y z => below_set3 (g := w.heap.size + 1 + 1) hb3 (by omega) x y z
  have HVAL : Hid (st.val = .agg st.cells) := rfl
  unfold Sc.val
  rw [HVAL.out]
  have hvI := i64_next s.ver
  have hvn : IntKind.i64.wrap (s.ver + 1) = vnext s.ver := rfl
  obtain ⟨vn, hvn2⟩ : ∃ vn, vnext s.ver = vn := ⟨_, rfl⟩
  rw [hvn2] at hvn hvI
  have HVN := Lib.hid hvn2
  clear hvn2 s0 s1 s2 r0 r1 r2 y0 y1 y2 hfin0
  have b4 := below_box W3 (.cells #[.int .i64 vn, .slice none 0 0, .slice none 0 0] 25)
  have aO := At.fresh W3 25 #[.int .i64 vn, .slice none 0 0, .slice none 0 0]
  obtain ⟨W4, hW4⟩ : ∃ W4, W3.alloc (.cells #[.int .i64 vn, .slice none 0 0, .slice none 0 0] 25) = W4 := ⟨_, rfl⟩
  rw [hW4] at b4 aO
  have hz4 : W4.heap.size = w.heap.size + 1 + 1 + 1 + 1 := by rw [← hW4]; simp [hz3]
  have aS4 := aS3.below b4 aS3.lt
  have aT4 := aT3.below b4 aT3.lt
  have aR4 := aR.below b4 aR.lt
  have hb4 := below_in hb3 b4
  rw [hz3] at aO
  have hkc := aT4.stmt.c0
  have htc := aT4.stmt.c1
  obtain ⟨-, -, -, -, -, -, -, -, -, -, -, -, -, d13, d14, d15, d16, -, -⟩ := aT4.stmt
  obtain ⟨s0, s1, s2⟩ := aS4.tri0
  obtain ⟨s0', -, -⟩ := aS3.tri0
  obtain ⟨p0, p1, p2⟩ := aO.tri0
  have hr0 : ¬ role < 0 := by omega
  have hr7 : ¬ 7 < role := by omega
  have e3 := hWc.out
  clear hWc
  subst e3
  have n6 : (st.kind == 6) = false := by rw [k7]; rfl
  rw [k7] at hkc
  have hFc := refFind_any s st.table _ (hs.below hb4)
  rw [firstI_of] at hFc
  have hOw := fun w1 (b : Below w.heap.size w w1) => rowns_any s role st.table w1 (hs.below b)
  unfold Sc.val at hFc hOw
  cases hf : tabAt s st.table with
  | none =>
    rw [hf] at hFc
    simp only at hFc
    have HAT := Lib.hid (fun (w' : World) (h : At w' (w.heap.size + 1) 34 st.cells) => h.stmt.c1)
    clear hOw
    subst hW4
    go_enter Tryz.func25, Tryz.ntmps25
    go_wp2_with fail
    refine hFc.mono ?_
    rintro e w5 ⟨rfl, b5⟩
    have hb5 := below_in hb4 b5
    have aR5 := aR4.below b5 aR4.lt
    clear hFc s0 s1 s2 s0' p0 p1 p2 hkc htc d13 d14 d15 d16 hb3 hb4 b4 b5 aR aO aS3 aT3 aS4 aT4 aR4
    obtain ⟨r0, r1, r2⟩ := aR5.tri0
    have y0 := aR5.unfrozen 0
    have y1 := aR5.unfrozen 1
    have y2 := aR5.unfrozen 2
    have hfin := fun x y z => below_set3 (g := w.heap.size + 1 + 1) hb5 (by omega) x y z
    have HX := Lib.hid (fun w' => HZ.out 8 w' (by decide) (fun X => .inr ⟨hr, .inr (.inr (.inl ⟨k7, .inl ⟨.inl ⟨hf, rfl⟩, by decide⟩, fun h => absurd h (by decide)⟩))⟩))
    clear HZ HF hs
    go_wp2_with fail
    exact bodyPost_ret (v := .tuple #[.agg #[.int .i64 0, .slice none 0 0, .slice none 0 0], .int .i64 8]) (by simp [results, Tryz.results25, go_sem, r0, r1, r2]) rfl ⟨HX.out _, hfin _ _ _⟩
  | some j =>
    rw [hf] at hFc
    simp only at hFc
    have hne : tabAt s st.table ≠ none := by rw [hf]; intro e; cases e
    have HNE := Lib.hid hne
    have HFT := Lib.hid hf
    have hj0 : ¬ ((j : Int) < 0) := by omega
    clear hne hf
    subst hW4
    go_enter Tryz.func25, Tryz.ntmps25
    go_wp2_with fail
    refine hFc.mono ?_
    rintro e w5 ⟨rfl, b5⟩
    have hb5 := below_in hb4 b5
    have aR5 := aR4.below b5 aR4.lt
    have aS5 := aS4.below b5 aS4.lt
    have aT5 := aT4.below b5 aT4.lt
    have aO5 := aO.below b5 aO.lt
    have hz5 := b5.size
    have hOc := hOw _ hb5
    clear hFc s0 s1 s2 s0' p0 p1 p2 hkc htc d13 d14 d15 d16 hb3 hb4 b4 b5 aR aO aS3 aT3 aS4 aT4 aR4 hOw
    obtain ⟨s0, s1, s2⟩ := aS5.tri0
    have htc := aT5.stmt.c1
    go_wp2_with fail
    refine hOc.mono ?_
    rintro e w6 ⟨rfl, b6⟩
    have hb6 := below_in hb5 b6
    have aR6 := aR5.below b6 aR5.lt
    have aS6 := aS5.below b6 aS5.lt
    have aT6 := aT5.below b6 aT5.lt
    have aO6 := aO5.below b6 aO5.lt
    have hz6 := b6.size
    clear hOc s0 s1 s2 htc aR5 aS5 aT5 aO5 hb5 b6
    cases ho : ownsS s role st.table with
    | false =>
      obtain ⟨r0, r1, r2⟩ := aR6.tri0
      have y0 := aR6.unfrozen 0
      have y1 := aR6.unfrozen 1
      have y2 := aR6.unfrozen 2
      have hfin := fun x y z => below_set3 (g := w.heap.size + 1 + 1) hb6 (by omega) x y z
      have HX := Lib.hid (fun w' => HZ.out 14 w' (by decide) (fun X => .inr ⟨hr, .inr (.inr (.inl ⟨k7, .inl ⟨.inr ⟨HNE.out, .inl ⟨ho, rfl⟩⟩, by decide⟩, fun h => absurd h (by decide)⟩))⟩))
      clear HZ HF hs
      go_wp2_with fail
      exact bodyPost_ret (v := .tuple #[.agg #[.int .i64 0, .slice none 0 0, .slice none 0 0], .int .i64 14]) (by simp [results, Tryz.results25, go_sem, r0, r1, r2]) rfl ⟨HX.out _, hfin _ _ _⟩
    | true =>
      have HO : Hid (ErrO s role st.table 0) := .inr ⟨HNE.out, .inr ⟨ho, rfl⟩⟩
      have hRf := rrefers_any s st.table w6 (hs.below hb6)
      have hF2 := fun w1 (b : Below w.heap.size w w1) => refFind_any s st.table w1 (hs.below b)
      rw [firstI_of, HFT.out] at hF2
      simp only at hF2
      unfold Sc.val at hRf hF2
      obtain ⟨s0, s1, s2⟩ := aS6.tri0
      have hkc := aT6.stmt.c0
      rw [k7] at hkc
      have htc := aT6.stmt.c1
      clear ho
      go_wp2_with fail
      refine hRf.mono ?_
      rintro e w7 ⟨⟨Bo, rfl, hBo⟩, b7⟩
      have hb7 := below_in hb6 b7
      have aR7 := aR6.below b7 aR6.lt
      have aS7 := aS6.below b7 aS6.lt
      have aT7 := aT6.below b7 aT6.lt
      have aO7 := aO6.below b7 aO6.lt
      have hz7 := b7.size
      clear hRf s0 s1 s2 hkc htc aT6 aR6 aS6 aO6 hb6 b7
      cases Bo with
      | true =>
        obtain ⟨r0, r1, r2⟩ := aR7.tri0
        have y0 := aR7.unfrozen 0
        have y1 := aR7.unfrozen 1
        have y2 := aR7.unfrozen 2
        have hfin := fun x y z => below_set3 (g := w.heap.size + 1 + 1) hb7 (by omega) x y z
        have HX := Lib.hid (fun w' => HZ.out 13 w' (by decide) (fun X => .inr ⟨hr, .inr (.inr (.inl ⟨k7, .inr ⟨HO.out, .inl ⟨hBo.1 rfl, rfl⟩⟩, fun h => absurd h (by decide)⟩))⟩))
        clear HZ HF hs hF2 hBo
        go_wp2_with fail
        exact bodyPost_ret (v := .tuple #[.agg #[.int .i64 0, .slice none 0 0, .slice none 0 0], .int .i64 13]) (by simp [results, Tryz.results25, go_sem, r0, r1, r2]) rfl ⟨HX.out _, hfin _ _ _⟩
      | false =>
        have HED : Hid (ErrD s role st.table 0) := .inr ⟨HO.out, .inr ⟨fun h => (by have := hBo.2 h; cases this), rfl⟩⟩
        obtain ⟨s0, s1, s2⟩ := aS7.tri0
        have htc := aT7.stmt.c1
        have hFc := hF2 _ hb7
        clear hBo hF2
        go_wp2_with fail
        refine hFc.mono ?_
        rintro e w8 ⟨rfl, b8⟩
        have hb8 := below_in hb7 b8
        have aR8 := aR7.below b8 aR7.lt
        have aS8 := aS7.below b8 aS7.lt
        have aT8 := aT7.below b8 aT7.lt
        have aO8 := aO7.below b8 aO7.lt
        have hz8 := b8.size
        clear hFc s0 s1 s2 htc aT7 aR7 aS7 aO7 hb7 b8
        obtain ⟨s0, s1, s2⟩ := aS8.tri0
        have hjt : j < s.tn := (firstAt_some HFT.out).1
        obtain ⟨Z, hZ⟩ : ∃ Z, w8.heap.size = Z := ⟨_, rfl⟩
        have hZw : w.heap.size + 1 + 1 + 1 + 1 ≤ Z := by omega
        have hT := hs.tabs
        have hG := hs.grants
        have htm := htn
        have hgm : s.gn ≤ 64 := by rw [← hs.grants.1]; exact hsg.1
        go_wp2_with fail
        go_loopw [91] (fun iv wr => ∃ (k : Nat) (A : Option Addr) (c : Nat), k ≤ s.tn ∧ iv = .int .i64 k ∧ Hid (wr.ownsRow Z 32 4 (.slice A (erL s.tab j k).length c) (erL s.tab j k).length ((erL s.tab j k).flatMap Tb.cs)) ∧ At wr (w.heap.size + 1 + 1 + 1) 25 #[.int .i64 vn, .slice A (erL s.tab j k).length c, .slice none 0 0] ∧ At wr w.heap.size 25 #[.int .i64 s.ver, .slice s.tA s.tn s.tcap, .slice s.gA s.gn s.gcap] ∧ At wr (w.heap.size + 1) 34 st.cells ∧ At wr (w.heap.size + 1 + 1) 25 #[.int .i64 0, .slice none 0 0, .slice none 0 0] ∧ Below w.heap.size w wr ∧ Z ≤ wr.heap.size) (fun iv _ => s.tn - (intOf iv).toNat)
        case atStart => exact ⟨0, none, 0, by omega, rfl, Lib.hid (World.ownsRow_nil _ _ _ 4), aO8, aS8, aT8, aR8, hb8, by omega⟩
        case round =>
          obtain ⟨k, A, c, hk, rfl, HO1, aOr, aSr, aTr, aRr, hbr, hzr⟩ := hrel
          clear aO8 aS8 aT8 aR8 hb8 s0 s1 s2
          by_cases hlt : k < s.tn
          · obtain ⟨bb, off, htA, hbl, hcell⟩ := hT (by omega)
            obtain ⟨c0, c1, c2, c3⟩ := (hcell k hlt).1.keep fun i => hbr.cell (p := ⟨bb, i, none⟩) hbl
            have hnx := er_next s.tab j k
            have hel := er_len s.tab j k
            have hki : (k : Int) < (s.tn : Int) := by omega
            rw [htA] at aSr ⊢
            have HTA := Lib.hid htA
            clear hcell hT htA
            obtain ⟨t, ht⟩ : ∃ t, s.tab k = t := ⟨_, rfl⟩
            rw [ht] at c0 c1 c2 c3 hnx
            have HTK := Lib.hid ht
            clear ht
            obtain ⟨tnm, tow, tcA, tcn, tcc, tcols, teA, ten, tec, tchk⟩ := t
            simp only at c0 c1 c2 c3
            have hb0 := below_box wr (.cells #[.string ⟨tnm.toArray⟩, .int .i64 tow, .slice tcA tcn tcc, .slice teA ten tec] 32)
            have hb3 := below_in hbr hb0
            have hox := World.ownsRow.alloc HO1.out (.cells #[.string ⟨tnm.toArray⟩, .int .i64 tow, .slice tcA tcn tcc, .slice teA ten tec] 32)
            have aOx := aOr.alloc (.cells #[.string ⟨tnm.toArray⟩, .int .i64 tow, .slice tcA tcn tcc, .slice teA ten tec] 32)
            have aSx := aSr.alloc (.cells #[.string ⟨tnm.toArray⟩, .int .i64 tow, .slice tcA tcn tcc, .slice teA ten tec] 32)
            have aTx := aTr.alloc (.cells #[.string ⟨tnm.toArray⟩, .int .i64 tow, .slice tcA tcn tcc, .slice teA ten tec] 32)
            have aRx := aRr.alloc (.cells #[.string ⟨tnm.toArray⟩, .int .i64 tow, .slice tcA tcn tcc, .slice teA ten tec] 32)
            have aXx := At.fresh wr 32 #[.string ⟨tnm.toArray⟩, .int .i64 tow, .slice tcA tcn tcc, .slice teA ten tec]
            obtain ⟨o0, o1, o2⟩ := aOx.tri0
            obtain ⟨x0, x1, x2, x3, -⟩ := aXx.four
            have hle0 : Z ≤ (wr.alloc (.cells #[.string ⟨tnm.toArray⟩, .int .i64 tow, .slice tcA tcn tcc, .slice teA ten tec] 32)).heap.size := by simp; omega
            clear hb0
            by_cases ekj : k = j
            · have q1 : ((k : Int) == (j : Int)) = true := by simp [ekj]
              rw [if_pos ekj] at hnx
              have HO3 : Hid ((wr.alloc (.cells #[.string ⟨tnm.toArray⟩, .int .i64 tow, .slice tcA tcn tcc, .slice teA ten tec] 32)).ownsRow Z 32 4 (.slice A (erL s.tab j (k + 1)).length c) (erL s.tab j (k + 1)).length ((erL s.tab j (k + 1)).flatMap Tb.cs)) := by
                show World.ownsRow _ _ _ _ _ _ _
                rw [hnx]; exact hox
              rw [← hnx] at aOx
              clear hox HO1 hnx ekj
              go_wp2_with fail
              exact ⟨⟨k + 1, A, c, by omega, by go_num, HO3, aOx, by first | exact aSx | (rw [HTA.out]; exact aSx), aTx, aRx, hb3, hle0⟩, by simp [intOf]; omega⟩
            · have q1 : ((k : Int) == (j : Int)) = false := by simp; omega
              rw [if_neg ekj] at hnx
              have hn1 : (erL s.tab j k).length + 1 ≤ 1000000000 := by omega
              clear ekj
              go_wp2_with (at_builtin; (refine wp_append1 rfl (.tmp 100) (.tmp 102) 22 rfl 32 4 72 _ Tryz.underlying22 info_table rfl (by omega) hox #[.string ⟨tnm.toArray⟩, .int .i64 tow, .slice tcA tcn tcc, .slice teA ten tec] 32 rfl rfl (World.size_alloc _ _) rfl ?c1 (by omega) (by omega) hle0 ?_))
              case c1 => exact ⟨rfl, rfl, rfl, rfl⟩
              intro g cap2 w5 ho5 hg5 hlt5
              have hown := fun kk e => World.ownsRow.lt hox kk e
              have hb5 := hb3.grown hg5.grown (by omega) (fun kk e => by have := (hown kk e).1; omega)
              have aO5 := At.grown aOx hg5.grown (fun e => by have := (hown _ e.symm).1; omega)
              have aS5 := At.grown aSx hg5.grown (fun e => by have := (hown _ e.symm).1; omega)
              have aT5 := At.grown aTx hg5.grown (fun e => by have := (hown _ e.symm).1; omega)
              have aR5 := At.grown aRx hg5.grown (fun e => by have := (hown _ e.symm).1; omega)
              have hz5 := hg5.grown.size
              have hgZ := (World.ownsRow.lt ho5 g rfl).1
              have hlen : (erL s.tab j (k + 1)).length = (erL s.tab j k).length + 1 := by rw [hnx]; simp
              have f1 : w5.cell? ⟨w.heap.size + 1 + 1 + 1, 1, none⟩ = some (.slice A (erL s.tab j k).length c) := aO5.cell 1
              have f2 := aO5.unfrozen 1
              have aO6 : At (w5.setCell ⟨w.heap.size + 1 + 1 + 1, 1, none⟩ (.slice (some ⟨g, 0, none⟩) ((erL s.tab j k).length + 1) cap2)) (w.heap.size + 1 + 1 + 1) 25 #[.int .i64 vn, .slice (some ⟨g, 0, none⟩) (erL s.tab j (k + 1)).length cap2, .slice none 0 0] := by
                rw [hlen]; exact aO5.put 1 _
              have aS6 := aS5.elsewhere (p := ⟨w.heap.size + 1 + 1 + 1, 1, none⟩) (by first | (simp; done) | (simp; omega)) (.slice (some ⟨g, 0, none⟩) ((erL s.tab j k).length + 1) cap2)
              have aT6 := aT5.elsewhere (p := ⟨w.heap.size + 1 + 1 + 1, 1, none⟩) (by first | (simp; done) | (simp; omega)) (.slice (some ⟨g, 0, none⟩) ((erL s.tab j k).length + 1) cap2)
              have aR6 := aR5.elsewhere (p := ⟨w.heap.size + 1 + 1 + 1, 1, none⟩) (by simp) (.slice (some ⟨g, 0, none⟩) ((erL s.tab j k).length + 1) cap2)
              have hb6 := hb5.setCell (p := ⟨w.heap.size + 1 + 1 + 1, 1, none⟩) (by show w.heap.size ≤ w.heap.size + 1 + 1 + 1; omega) (.slice (some ⟨g, 0, none⟩) ((erL s.tab j k).length + 1) cap2)
              have hz6 : Z ≤ (w5.setCell ⟨w.heap.size + 1 + 1 + 1, 1, none⟩ (.slice (some ⟨g, 0, none⟩) ((erL s.tab j k).length + 1) cap2)).heap.size := by
                have : (w5.setCell ⟨w.heap.size + 1 + 1 + 1, 1, none⟩ (.slice (some ⟨g, 0, none⟩) ((erL s.tab j k).length + 1) cap2)).heap.size = w5.heap.size := by simp [World.setCell]
                omega
              have HO6 : Hid ((w5.setCell ⟨w.heap.size + 1 + 1 + 1, 1, none⟩ (.slice (some ⟨g, 0, none⟩) ((erL s.tab j k).length + 1) cap2)).ownsRow Z 32 4 (.slice (some ⟨g, 0, none⟩) (erL s.tab j (k + 1)).length cap2) (erL s.tab j (k + 1)).length ((erL s.tab j (k + 1)).flatMap Tb.cs)) := by
                show World.ownsRow _ _ _ _ _ _ _
                rw [hlen, hnx, List.flatMap_append]
                exact own_block_keep ho5 (fun b e => by
                  obtain rfl : g = b := Option.some.inj e
                  exact Below.heap_setCell _ _ _ _ (fun e : g = w.heap.size + 1 + 1 + 1 => by omega))
              clear ho5 hg5 hox HO1 o0 o1 o2 x0 x1 x2 x3 hlen hnx aOx aSx aTx aRx aXx aO5 aS5 aT5 aR5
              go_wp2_with fail
              exact ⟨⟨k + 1, some ⟨g, 0, none⟩, cap2, by omega, by go_num, HO6, aO6, by first | exact aS6 | (rw [HTA.out]; exact aS6), aT6, aR6, hb6, hz6⟩, by simp [intOf]; omega⟩
          · obtain rfl : k = s.tn := by omega
            obtain ⟨s0, s1, s2⟩ := aSr.tri0
            clear hT
            go_wp2_with fail
            go_loopw [109] (fun iv wr => ∃ (k : Nat) (A' : Option Addr) (c' : Nat), k ≤ s.gn ∧ iv = .int .i64 k ∧ Hid (wr.ownsRow Z 32 4 (.slice A (erL s.tab j s.tn).length c) (erL s.tab j s.tn).length ((erL s.tab j s.tn).flatMap Tb.cs)) ∧ Hid (wr.ownsRow Z 50 3 (.slice A' (woG st.table (s.grants.take k)).length c') (woG st.table (s.grants.take k)).length ((woG st.table (s.grants.take k)).flatMap Gr.cs)) ∧ At wr (w.heap.size + 1 + 1 + 1) 25 #[.int .i64 vn, .slice A (erL s.tab j s.tn).length c, .slice A' (woG st.table (s.grants.take k)).length c'] ∧ At wr w.heap.size 25 #[.int .i64 s.ver, .slice s.tA s.tn s.tcap, .slice s.gA s.gn s.gcap] ∧ At wr (w.heap.size + 1) 34 st.cells ∧ At wr (w.heap.size + 1 + 1) 25 #[.int .i64 0, .slice none 0 0, .slice none 0 0] ∧ Below w.heap.size w wr ∧ Z ≤ wr.heap.size) (fun iv _ => s.gn - (intOf iv).toNat)
            case atStart => exact ⟨0, none, 0, by omega, rfl, HO1, Lib.hid (World.ownsRow_nil _ _ _ 3), aOr, aSr, aTr, aRr, hbr, hzr⟩
            case round =>
              clear aOr aSr aTr aRr hbr s0 s1 s2 HO1 hzr
              obtain ⟨k, A', c', hk, rfl, HO1, HO2, aOr, aSr, aTr, aRr, hbr, hzr⟩ := hrel
              by_cases hlt : k < s.gn
              · obtain ⟨bb, off, hgA, hbl, hcell⟩ := hG.2.2 (by omega)
                obtain ⟨c0, c1, c2⟩ := (hcell k hlt).keep fun i => hbr.cell (p := ⟨bb, i, none⟩) hbl
                have hwy := wo_yes (T := st.table) (gs := s.grants) (k := k) (by rw [hG.1]; exact hlt)
                have hwn := wo_no (T := st.table) (gs := s.grants) (k := k) (by rw [hG.1]; exact hlt)
                have hwl : (woG st.table (s.grants.take k)).length ≤ 64 := by
                  have := wo_len st.table (s.grants.take k)
                  rw [List.length_take] at this
                  omega
                rw [show atG s.grants k = s.grants.getD k default from rfl] at hwy hwn
                have hki : (k : Int) < (s.gn : Int) := by omega
                rw [hgA] at aSr ⊢
                have HGA := Lib.hid hgA
                clear hcell hG hgA
                obtain ⟨o, hoo⟩ : ∃ o, s.grants.getD k default = o := ⟨_, rfl⟩
                rw [hoo] at hwy hwn c0 c1 c2
                clear hoo
                obtain ⟨gro, gtb, gbi⟩ := o
                simp only at c0 c1 c2 hwy hwn
                have hb0 := below_box wr (.cells #[.int .i64 gro, .string ⟨gtb.toArray⟩, .int .i64 gbi] 50)
                have hb3 := below_in hbr hb0
                have hox := World.ownsRow.alloc HO2.out (.cells #[.int .i64 gro, .string ⟨gtb.toArray⟩, .int .i64 gbi] 50)
                have hot := World.ownsRow.alloc HO1.out (.cells #[.int .i64 gro, .string ⟨gtb.toArray⟩, .int .i64 gbi] 50)
                have aOx := aOr.alloc (.cells #[.int .i64 gro, .string ⟨gtb.toArray⟩, .int .i64 gbi] 50)
                have aSx := aSr.alloc (.cells #[.int .i64 gro, .string ⟨gtb.toArray⟩, .int .i64 gbi] 50)
                have aTx := aTr.alloc (.cells #[.int .i64 gro, .string ⟨gtb.toArray⟩, .int .i64 gbi] 50)
                have aRx := aRr.alloc (.cells #[.int .i64 gro, .string ⟨gtb.toArray⟩, .int .i64 gbi] 50)
                have aXx := At.fresh wr 50 #[.int .i64 gro, .string ⟨gtb.toArray⟩, .int .i64 gbi]
                have htc := aTx.stmt.c1
                obtain ⟨o0, o1, o2⟩ := aOx.tri0
                obtain ⟨x0, x1, x2⟩ := aXx.tri0
                have hle0 : Z ≤ (wr.alloc (.cells #[.int .i64 gro, .string ⟨gtb.toArray⟩, .int .i64 gbi] 50)).heap.size := by simp; omega
                clear hb0 aXx
                by_cases egt : gtb = st.table
                · have q1 : (gtb == st.table) = true := by simp [egt]
                  have hnx := hwy egt
                  have HO3 : Hid ((wr.alloc (.cells #[.int .i64 gro, .string ⟨gtb.toArray⟩, .int .i64 gbi] 50)).ownsRow Z 50 3 (.slice A' (woG st.table (s.grants.take (k + 1))).length c') (woG st.table (s.grants.take (k + 1))).length ((woG st.table (s.grants.take (k + 1))).flatMap Gr.cs)) := by
                    show World.ownsRow _ _ _ _ _ _ _
                    rw [hnx]; exact hox
                  rw [← hnx] at aOx
                  have HOT := Lib.hid hot
                  clear hox hot HO1 HO2 hnx hwy hwn egt
                  go_wp2_with fail
                  exact ⟨⟨k + 1, A', c', by omega, by go_num, HOT, HO3, aOx, by first | exact aSx | (rw [HGA.out]; exact aSx), aTx, aRx, hb3, hle0⟩, by simp [intOf]; omega⟩
                · have q1 : (gtb == st.table) = false := by simp [egt]
                  have hnx := hwn egt
                  clear egt hwy hwn
                  go_wp2_with (at_builtin; (refine wp_append1 rfl (.tmp 119) (.tmp 121) 23 rfl 50 3 32 _ Tryz.underlying23 info_grant rfl (by omega) hox #[.int .i64 gro, .string ⟨gtb.toArray⟩, .int .i64 gbi] 50 rfl rfl (World.size_alloc _ _) rfl ?c1 (by omega) (by omega) hle0 ?_))
                  case c1 => exact ⟨rfl, rfl, rfl⟩
                  intro g cap2 w5 ho5 hg5 hlt5
                  have hown := fun kk e => World.ownsRow.lt hox kk e
                  have hb5 := hb3.grown hg5.grown (by omega) (fun kk e => by have := (hown kk e).1; omega)
                  have aO5 := At.grown aOx hg5.grown (fun e => by have := (hown _ e.symm).1; omega)
                  have aS5 := At.grown aSx hg5.grown (fun e => by have := (hown _ e.symm).1; omega)
                  have aT5 := At.grown aTx hg5.grown (fun e => by have := (hown _ e.symm).1; omega)
                  have aR5 := At.grown aRx hg5.grown (fun e => by have := (hown _ e.symm).1; omega)
                  have hz5 := hg5.grown.size
                  have hgZ := (World.ownsRow.lt ho5 g rfl).1
                  have hlen : (woG st.table (s.grants.take (k + 1))).length = (woG st.table (s.grants.take k)).length + 1 := by rw [hnx]; simp
                  have f1 : w5.cell? ⟨w.heap.size + 1 + 1 + 1, 2, none⟩ = some (.slice A' (woG st.table (s.grants.take k)).length c') := aO5.cell 2
                  have f2 := aO5.unfrozen 2
                  have aO6 : At (w5.setCell ⟨w.heap.size + 1 + 1 + 1, 2, none⟩ (.slice (some ⟨g, 0, none⟩) ((woG st.table (s.grants.take k)).length + 1) cap2)) (w.heap.size + 1 + 1 + 1) 25 #[.int .i64 vn, .slice A (erL s.tab j s.tn).length c, .slice (some ⟨g, 0, none⟩) (woG st.table (s.grants.take (k + 1))).length cap2] := by
                    rw [hlen]; exact aO5.put 2 _
                  have aS6 := aS5.elsewhere (p := ⟨w.heap.size + 1 + 1 + 1, 2, none⟩) (by first | (simp; done) | (simp; omega)) (.slice (some ⟨g, 0, none⟩) ((woG st.table (s.grants.take k)).length + 1) cap2)
                  have aT6 := aT5.elsewhere (p := ⟨w.heap.size + 1 + 1 + 1, 2, none⟩) (by first | (simp; done) | (simp; omega)) (.slice (some ⟨g, 0, none⟩) ((woG st.table (s.grants.take k)).length + 1) cap2)
                  have aR6 := aR5.elsewhere (p := ⟨w.heap.size + 1 + 1 + 1, 2, none⟩) (by simp) (.slice (some ⟨g, 0, none⟩) ((woG st.table (s.grants.take k)).length + 1) cap2)
                  have hb6 := hb5.setCell (p := ⟨w.heap.size + 1 + 1 + 1, 2, none⟩) (by show w.heap.size ≤ w.heap.size + 1 + 1 + 1; omega) (.slice (some ⟨g, 0, none⟩) ((woG st.table (s.grants.take k)).length + 1) cap2)
                  have hz6 : Z ≤ (w5.setCell ⟨w.heap.size + 1 + 1 + 1, 2, none⟩ (.slice (some ⟨g, 0, none⟩) ((woG st.table (s.grants.take k)).length + 1) cap2)).heap.size := by
                    have : (w5.setCell ⟨w.heap.size + 1 + 1 + 1, 2, none⟩ (.slice (some ⟨g, 0, none⟩) ((woG st.table (s.grants.take k)).length + 1) cap2)).heap.size = w5.heap.size := by simp [World.setCell]
                    omega
                  have HO6 : Hid ((w5.setCell ⟨w.heap.size + 1 + 1 + 1, 2, none⟩ (.slice (some ⟨g, 0, none⟩) ((woG st.table (s.grants.take k)).length + 1) cap2)).ownsRow Z 50 3 (.slice (some ⟨g, 0, none⟩) (woG st.table (s.grants.take (k + 1))).length cap2) (woG st.table (s.grants.take (k + 1))).length ((woG st.table (s.grants.take (k + 1))).flatMap Gr.cs)) := by
                    show World.ownsRow _ _ _ _ _ _ _
                    rw [hlen, hnx, List.flatMap_append]
                    exact own_block_keep ho5 (fun b e => by
                      obtain rfl : g = b := Option.some.inj e
                      exact Below.heap_setCell _ _ _ _ (fun e : g = w.heap.size + 1 + 1 + 1 => by omega))
                  have HOT : Hid ((w5.setCell ⟨w.heap.size + 1 + 1 + 1, 2, none⟩ (.slice (some ⟨g, 0, none⟩) ((woG st.table (s.grants.take k)).length + 1) cap2)).ownsRow Z 32 4 (.slice A (erL s.tab j s.tn).length c) (erL s.tab j s.tn).length ((erL s.tab j s.tn).flatMap Tb.cs)) := by
                    show World.ownsRow _ _ _ _ _ _ _
                    refine own_block_keep hot (fun b e => ?_)
                    obtain ⟨l1, l2⟩ := World.ownsRow.lt hot b e
                    refine (Below.heap_setCell _ _ _ _ (fun e : b = w.heap.size + 1 + 1 + 1 => by omega)).trans (hg5.grown.block b l2 (fun e2 => ?_))
                    exact own_apart hox hot (by decide) e2.symm e
                  clear ho5 hg5 hox hot HO1 HO2 o0 o1 o2 x0 x1 x2 hlen hnx aOx aSx aTx aRx aO5 aS5 aT5 aR5
                  go_wp2_with fail
                  exact ⟨⟨k + 1, some ⟨g, 0, none⟩, cap2, by omega, by go_num, HOT, HO6, aO6, by first | exact aS6 | (rw [HGA.out]; exact aS6), aT6, aR6, hb6, hz6⟩, by simp [intOf]; omega⟩
              · obtain rfl : k = s.gn := by omega
                obtain ⟨o0, o1, o2⟩ := aOr.tri0
                obtain ⟨r0, r1, r2⟩ := aRr.tri0
                have y0 := aRr.unfrozen 0
                have y1 := aRr.unfrozen 1
                have y2 := aRr.unfrozen 2
                have hfin := fun x y z => below_set3 (g := w.heap.size + 1 + 1) hbr (by omega) x y z
                have htk : s.grants.take s.gn = s.grants := by rw [← hG.1]; exact List.take_length
                rw [htk] at HO2 o2 aOr
                have HX := Lib.hid (fun w' (hbw : Below w.heap.size w w') h1 h2 => rp_drop (w' := w') (Z := Z) (A := A) (c := c) (A' := A') (c' := c') HF.out hs hr k7 HED.out HFT.out HVN.out hvI htm hgm hbw h1 h2)
                have HMV : Hid (∀ x y z b, Z ≤ b → (((wr.setCell ⟨w.heap.size + 1 + 1, 0, none⟩ x).setCell ⟨w.heap.size + 1 + 1, 1, none⟩ y).setCell ⟨w.heap.size + 1 + 1, 2, none⟩ z).heap[b]? = wr.heap[b]?) := by
                  show ∀ _, _
                  intro x y z b hb
                  exact (Below.heap_setCell _ _ _ _ (fun e : b = w.heap.size + 1 + 1 => by omega)).trans ((Below.heap_setCell _ _ _ _ (fun e : b = w.heap.size + 1 + 1 => by omega)).trans (Below.heap_setCell _ _ _ _ (fun e : b = w.heap.size + 1 + 1 => by omega)))
                clear HF HZ hs hG aOr aSr aTr htk
                go_wp2_with fail
                refine bodyPost_ret (v := .tuple #[.agg #[.int .i64 vn, .slice A (erL s.tab j s.tn).length c, .slice A' (woG st.table s.grants).length c'], .int .i64 0]) (by simp [results, Tryz.results25, go_sem, r0, r1, r2]) rfl ⟨HX.out _ (hfin _ _ _) (own_move HO1.out (fun b hb _ => HMV.out _ _ _ b hb) (Nat.le_refl _)) (own_move HO2.out (fun b hb _ => HMV.out _ _ _ b hb) (Nat.le_refl _)), hfin _ _ _⟩
end Go.Proofs.YtnhalfdddcjicaaGreat
