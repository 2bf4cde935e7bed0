/- The walks of the reference's create and refers. -/
import Derived.Test.YtnhalfdddcjicaaGreatQJbd
import Derived.Test.YtnhalfdddcjicaaGreatQScX
namespace Go.Proofs.YtnhalfdddcjicaaGreat
open Go.RowKit

set_option maxRecDepth 100000 in
set_option maxHeartbeats 6400000 in
theorem rcreate_any (s : Sc) (role : Int) (d : Tb) (w : World) (hs : InS w s) (hd : InT w (d.own role)) (hwd : wtT d ≤ 1048576) :
    Calls Tryz.prog 52 #[s.val, .int .i64 role, (d.own role).val] w fun e w' => (∃ er, e = .returned (.int .i64 er) ∧ ErrC s role d er) ∧ Below w.heap.size w w' := by
  have HN : Hid (∀ er, ErrC s role d er → ∃ er', Ending.returned (Value.int .i64 er) = .returned (.int .i64 er') ∧ ErrC s role d er') := by
    show ∀ _, _
    exact fun er h => ⟨er, rfl, h⟩
  have HE : Hid (∀ er, ErrC s role d er ↔ (tabAt s d.name ≠ none ∧ er = 8) ∨ (tabAt s d.name = none ∧ ((goodE (d.own role) s ≠ 0 ∧ er = goodE (d.own role) s) ∨ (goodE (d.own role) s = 0 ∧
    ((¬ refsOk s role d ∧ er = 14) ∨ (refsOk s role d ∧ ((12 ≤ s.tn ∧ er = 3) ∨ (s.tn < 12 ∧ er = 0)))))))) := by
    show ∀ _, _
    exact fun er => Iff.rfl
  have HK : Hid (refsOk s role d ↔ ∀ j, j < d.cn → (d.cols.getD j default).ref ≠ [] → (d.cols.getD j default).ref ≠ d.name → MayP s role (d.cols.getD j default).ref 16) := by
    show _ ↔ _
    unfold refsOk
    constructor
    · intro h j hj
      refine h _ ?_
      rw [List.getD_eq_getElem?_getD, List.getElem?_eq_getElem (by have : d.cols.length = d.cn := hd.cols.1; omega)]
      exact List.getElem_mem _
    · intro h c hc
      obtain ⟨j, hj, rfl⟩ := List.getElem_of_mem hc
      have := h j (by have : d.cols.length = d.cn := hd.cols.1; omega)
      rw [List.getD_eq_getElem?_getD, List.getElem?_eq_getElem hj] at this
      exact this
  have b0 := below_box w (.cells #[.int .i64 s.ver, .slice s.tA s.tn s.tcap, .slice s.gA s.gn s.gcap] 25)
  have aS := (At.fresh w 25 #[.int .i64 s.ver, .slice s.tA s.tn s.tcap, .slice s.gA s.gn s.gcap]).alloc (.cells #[.string ⟨d.name.toArray⟩, .int .i64 role, .slice d.cA d.cn d.ccap, .slice d.eA d.en d.ecap] 32)
  have aT := At.fresh (w.alloc (.cells #[.int .i64 s.ver, .slice s.tA s.tn s.tcap, .slice s.gA s.gn s.gcap] 25)) 32 #[.string ⟨d.name.toArray⟩, .int .i64 role, .slice d.cA d.cn d.ccap, .slice d.eA d.en d.ecap]
  rw [World.size_alloc] at aT
  have b1 := b0.alloc b0.size (.cells #[.string ⟨d.name.toArray⟩, .int .i64 role, .slice d.cA d.cn d.ccap, .slice d.eA d.en d.ecap] 32)
  obtain ⟨W, hW⟩ : ∃ W, (w.alloc (.cells #[.int .i64 s.ver, .slice s.tA s.tn s.tcap, .slice s.gA s.gn s.gcap] 25)).alloc (.cells #[.string ⟨d.name.toArray⟩, .int .i64 role, .slice d.cA d.cn d.ccap, .slice d.eA d.en d.ecap] 32) = W := ⟨_, rfl⟩
  rw [hW] at aS aT b1
  have hWc := Lib.hid hW
  have hF := fun w1 (b : Below w.heap.size w w1) => refFind_any s d.name w1 (hs.below b)
  rw [firstI_of] at hF
  have hG := fun w1 (b : Below w.heap.size w w1) => rgoodT_any (d.own role) s w1 (hd.below b) (hs.below b) hwd
  have hM := fun x w1 (b : Below w.heap.size w w1) => rmay_any s role x 16 w1 (hs.below b)
  unfold RMayE at hM
  have hcm : d.cn ≤ maxLen := hd.cmax
  have hrow : RowC w d.cA d.cn d.cols := hd.cols
  unfold maxLen at hcm
  clear hW b0 hs hd
  generalize MayP s role = MP at *
  generalize ErrC s role d = EC at *
  generalize refsOk s role d = RO at *
  generalize goodE (d.own role) s = GE at *
  unfold Sc.val at hM hF hG ⊢
  unfold Tb.val at hG ⊢
  simp only [Tb.own] at hG ⊢
  obtain ⟨p0, p1, p2⟩ := aS.tri0
  obtain ⟨t0, t1, t2, t3, -⟩ := aT.four
  have hFc := hF _ b1
  cases hf : tabAt s d.name with
  | some j =>
    have HX := Lib.hid (HN.out 8 ((HE.out 8).2 (.inl ⟨by rw [hf]; simp, rfl⟩)))
    rw [hf] at hFc
    simp only at hFc
    have hj0 : (0 : Int) ≤ (j : Int) := by omega
    clear HN HE hG hM hF hf HK
    go_enter Tryz.func52, Tryz.ntmps52
    go_wp2_with fail
    rw [hWc.out]
    refine hFc.mono ?_
    rintro e w2 ⟨rfl, b2⟩
    have hb2 := below_in b1 b2
    go_wp2_with fail
    go_ret
    exact ⟨HX.out, hb2⟩
  | none =>
    have HN2 := Lib.hid (fun (er : Int) (h : (GE ≠ 0 ∧ er = GE) ∨ (GE = 0 ∧ ((¬ RO ∧ er = 14) ∨ (RO ∧ ((12 ≤ s.tn ∧ er = 3) ∨ (s.tn < 12 ∧ er = 0)))))) => HN.out er ((HE.out er).2 (.inr ⟨hf, h⟩)))
    rw [hf] at hFc
    simp only at hFc
    clear HN HE hF hf
    go_enter Tryz.func52, Tryz.ntmps52
    go_wp2_with fail
    rw [hWc.out]
    refine hFc.mono ?_
    rintro e w2 ⟨rfl, b2⟩
    have hb2 := below_in b1 b2
    have aS2 := aS.below b2 aS.lt
    have aT2 := aT.below b2 aT.lt
    have hGc := hG _ hb2
    clear p0 p1 p2 t0 t1 t2 t3 aS aT b1 b2 hWc hFc hG
    obtain ⟨p0, p1, p2⟩ := aS2.tri0
    obtain ⟨t0, t1, t2, t3, -⟩ := aT2.four
    go_wp2_with fail
    refine hGc.mono ?_
    rintro e w3 ⟨rfl, b3⟩
    have hb3 := below_in hb2 b3
    have aS3 := aS2.below b3 aS2.lt
    have aT3 := aT2.below b3 aT2.lt
    clear p0 p1 p2 t0 t1 t2 t3 aS2 aT2 hb2 b3 hGc
    by_cases hge : GE = 0
    · subst hge
      have HN3 := Lib.hid (fun (er : Int) (h : (¬ RO ∧ er = 14) ∨ (RO ∧ ((12 ≤ s.tn ∧ er = 3) ∨ (s.tn < 12 ∧ er = 0)))) => HN2.out er (.inr ⟨rfl, h⟩))
      clear HN2
      obtain ⟨t0, t1, t2, t3, -⟩ := aT3.four
      go_wp2_with fail
      obtain ⟨nm, ow, cA, cn, ccap, cols, eA, en, ecap, chk⟩ := d
      simp only at *
      go_loopw [24] (fun i wr => ∃ k : Nat, k ≤ cn ∧ i = .int .i64 k ∧ Hid (∀ j, j < k → (cols.getD j default).ref ≠ [] → (cols.getD j default).ref ≠ nm → MP (cols.getD j default).ref 16) ∧ At wr w.heap.size 25 #[.int .i64 s.ver, .slice s.tA s.tn s.tcap, .slice s.gA s.gn s.gcap] ∧
        At wr (w.heap.size + 1) 32 #[.string ⟨nm.toArray⟩, .int .i64 role, .slice cA cn ccap, .slice eA en ecap] ∧ Below w.heap.size w wr) (fun i _ => cn - (intOf i).toNat)
      case atStart => exact ⟨0, by omega, rfl, show ∀ _, _ from fun j h => absurd h (by omega), aS3, aT3, hb3⟩
      case round =>
        clear aS3 aT3 hb3 t0 t1 t2 t3
        obtain ⟨k, hk, rfl, HF, aS, aT, hbr⟩ := hrel
        by_cases hkn : k < cn
        · obtain ⟨b, off, rfl, hbl, hcell⟩ := hrow.2.2 (by omega)
          have hcl := (hcell k hkn).keep fun i => hbr.cell (p := ⟨b, i, none⟩) hbl
          have HS : Hid (((cols.getD k default).ref ≠ [] → (cols.getD k default).ref ≠ nm → MP (cols.getD k default).ref 16) → Hid (∀ j, j < k + 1 → (cols.getD j default).ref ≠ [] → (cols.getD j default).ref ≠ nm → MP (cols.getD j default).ref 16)) := by
            show _ → _
            intro h
            show ∀ _, _
            intro j hj
            by_cases e : j = k
            · rw [e]; exact h
            · exact HF.out j (by omega)
          have HB : Hid ((cols.getD k default).ref ≠ [] → (cols.getD k default).ref ≠ nm → ¬ MP (cols.getD k default).ref 16 → ∃ er', Ending.returned (Value.int .i64 14) = .returned (.int .i64 er') ∧ EC er') := by
            show _ → _ → _ → _
            intro h1 h2 h3
            exact HN3.out 14 (.inl ⟨fun ro => h3 (HK.out.1 ro k hkn h1 h2), rfl⟩)
          clear HF HN3 HK hcell hrow
          generalize cols.getD k default = c at *
          obtain ⟨cnm, ckd, cnn, cun, crf, cdl⟩ := c
          obtain ⟨c0, c1, c2, c3, c4, c5⟩ := hcl
          simp only at c0 c1 c2 c3 c4 c5 HS HB
          have hb0 := below_box wr (.cells #[.string ⟨cnm.toArray⟩, .int .i64 ckd, .bool cnn, .bool cun, .string ⟨crf.toArray⟩, .int .i64 cdl] 54)
          have hbx := below_in hbr hb0
          have aS3 := aS.below hb0 aS.lt
          have aT3 := aT.below hb0 aT.lt
          obtain ⟨s0, s1, s2⟩ := aS3.tri0
          obtain ⟨t0, t1, t2, t3, -⟩ := aT3.four
          clear hb0
          by_cases e0 : crf = []
          · have HE := HS.out (fun h => absurd e0 h)
            subst e0
            clear HS HB
            go_wp2_with fail
            exact ⟨⟨k + 1, by omega, by go_num, HE, aS3, aT3, hbx⟩, by simp [intOf]; omega⟩
          · obtain ⟨r1, r2, r3⟩ := empty_forms e0
            have q1 : (crf != []) = true := by simp [e0]
            by_cases e1 : crf = nm
            · have HE := HS.out (fun _ h => absurd e1 h)
              have q2 : (crf == nm) = true := by simp [e1]
              subst e1
              clear HS HB
              go_wp2_with fail
              exact ⟨⟨k + 1, by omega, by go_num, HE, aS3, aT3, hbx⟩, by simp [intOf]; omega⟩
            · have q2 : (crf == nm) = false := by simp [e1]
              have HS2 : Hid (MP crf 16 → _) := fun h => HS.out (fun _ _ => h)
              have HB2 := Lib.hid (HB.out e0 e1)
              have hMc := hM crf _ hbx
              clear HS HB hM
              go_wp2_with fail
              refine hMc.mono ?_
              rintro e w2 ⟨⟨B, rfl, hB⟩, b2⟩
              have hb2 := below_in hbx b2
              have aS4 := aS3.below b2 aS3.lt
              have aT4 := aT3.below b2 aT3.lt
              cases B with
              | true =>
                have HE := HS2.out (hB.1 rfl)
                clear HS2 HB2 hB
                go_wp2_with fail
                exact ⟨⟨k + 1, by omega, by go_num, HE, aS4, aT4, hb2⟩, by simp [intOf]; omega⟩
              | false =>
                have HE := Lib.hid (HB2.out (fun m => by have := hB.2 m; cases this))
                clear HS2 HB2 hB
                go_wp2_with fail
                go_ret
                exact ⟨HE.out, hb2⟩
        · obtain rfl : cn = k := by omega
          have HRO := Lib.hid (HK.out.2 HF.out)
          clear HK HF
          obtain ⟨p0, p1, p2⟩ := aS.tri0
          by_cases h12 : 12 ≤ s.tn
          · have hcmp : (12 : Int) ≤ (s.tn : Int) := by omega
            have HX := Lib.hid (HN3.out 3 (.inr ⟨HRO.out, .inl ⟨h12, rfl⟩⟩))
            clear HN3 HRO
            go_wp2_with fail
            go_ret
            exact ⟨HX.out, hbr⟩
          · have hcmp : ¬ (12 : Int) ≤ (s.tn : Int) := by omega
            have HX := Lib.hid (HN3.out 0 (.inr ⟨HRO.out, .inr ⟨by omega, rfl⟩⟩))
            clear HN3 HRO
            go_wp2_with fail
            go_ret
            exact ⟨HX.out, hbr⟩
    · have HX := Lib.hid (HN2.out GE (.inl ⟨hge, rfl⟩))
      have hge2 : (GE != 0) = true := by simpa using hge
      clear HN2 hM
      go_wp2_with fail
      go_ret
      exact ⟨HX.out, hb3⟩

theorem refers_none {s : Sc} {x : List UInt8} (h : ∀ j, j < s.tn → ∀ i, i < (s.tab j).cols.length → (s.tab j).name ≠ x → ((s.tab j).cols.getD i default).ref = x → x = []) : ¬ refersS s x := by
  rintro ⟨h0, j, hj, h1, c, hc, h2⟩
  obtain ⟨i, hi, rfl⟩ := List.getElem_of_mem hc
  refine h0 (h j hj i hi h1 ?_)
  rw [List.getD_eq_getElem?_getD, List.getElem?_eq_getElem hi]
  exact h2
theorem refers_some {s : Sc} {x : List UInt8} {j i : Nat} (h0 : x ≠ []) (hj : j < s.tn) (h1 : (s.tab j).name ≠ x) (h2 : ((s.tab j).cols.getD i default).ref = x) : refersS s x := by
  rcases getD_mem_or (cs := (s.tab j).cols) i with h | h
  · exact ⟨h0, j, hj, h1, _, h, h2⟩
  · rw [h2] at h; exact absurd h h0
set_option maxRecDepth 100000 in
set_option maxHeartbeats 3200000 in
theorem rrefers_any (s : Sc) (x : List UInt8) (w : World) (hs : InS w s) :
    Calls Tryz.prog 54 #[s.val, .string ⟨x.toArray⟩] w fun e w' => (∃ B : Bool, e = .returned (.bool B) ∧ (B = true ↔ refersS s x)) ∧ Below w.heap.size w w' := by
  have HY : Hid (refersS s x → ∃ B : Bool, Ending.returned (Value.bool true) = .returned (.bool B) ∧ (B = true ↔ refersS s x)) := by
    show _ → _
    exact fun h => ⟨true, rfl, ⟨fun _ => h, fun _ => rfl⟩⟩
  have HN : Hid (¬ refersS s x → ∃ B : Bool, Ending.returned (Value.bool false) = .returned (.bool B) ∧ (B = true ↔ refersS s x)) := by
    show _ → _
    exact fun h => ⟨false, rfl, ⟨fun k => (by cases k), fun k => absurd k h⟩⟩
  have b0 := below_box w (.cells #[.int .i64 s.ver, .slice s.tA s.tn s.tcap, .slice s.gA s.gn s.gcap] 25)
  have htm := hs.tmax
  have hT := hs.tabs
  have hin := fun j hj => in_tab hs (j := j) hj
  have hcl := fun j hj => cols_len hs (j := j) hj
  unfold maxLen at htm
  have HRN := Lib.hid (fun h => @refers_none s x h)
  have HRS := Lib.hid (fun (j i : Nat) => @refers_some s x j i)
  generalize refersS s x = RS at *
  clear hs
  obtain ⟨ver, tA, tn, tcap, tab, gA, gn, gcap, gs⟩ := s
  unfold Sc.val
  simp only at *
  go_enter Tryz.func54, Tryz.ntmps54
  go_wp2_with fail
  go_loopw [12] (fun iv wr => ∃ k : Nat, k ≤ tn ∧ iv = .int .i64 k ∧ Hid (∀ j, j < k → ∀ i, i < (tab j).cols.length → (tab j).name ≠ x → ((tab j).cols.getD i default).ref = x → x = []) ∧ Below w.heap.size w wr) (fun iv _ => tn - (intOf iv).toNat)
  case atStart => exact ⟨0, by omega, rfl, show ∀ _, _ from fun j h => absurd h (by omega), b0⟩
  case round =>
    clear b0
    obtain ⟨k, hk, rfl, HF, hbr⟩ := hrel
    by_cases hlt : k < tn
    · obtain ⟨b, off, rfl, hbl, hcell⟩ := hT (by omega)
      obtain ⟨c0, c1, c2, c3⟩ := (hcell k hlt).1.keep fun i => hbr.cell (p := ⟨b, i, none⟩) hbl
      have hink := hin k hlt
      have hlen := hcl k hlt
      have HS : Hid ((∀ i, i < (tab k).cols.length → (tab k).name ≠ x → ((tab k).cols.getD i default).ref = x → x = []) → Hid (∀ j, j < k + 1 → ∀ i, i < (tab j).cols.length → (tab j).name ≠ x → ((tab j).cols.getD i default).ref = x → x = [])) := by
        show _ → _
        intro h
        show ∀ _, _
        intro j hj
        by_cases e : j = k
        · rw [e]; exact h
        · exact HF.out j (by omega)
      have HB := Lib.hid (fun (i : Nat) (h0 : x ≠ []) (h1 : (tab k).name ≠ x) (h2 : ((tab k).cols.getD i default).ref = x) => HY.out (HRS.out k i h0 hlt h1 h2))
      clear HF hcell hin hcl HRS HRN HY HN hT
      generalize tab k = t at *
      have hrow := hink.cols
      have hcm := hink.cmax
      unfold maxLen at hcm
      clear hink
      obtain ⟨nm, ow, cA, cn, ccap, cols, eA, en, ecap, chk⟩ := t
      simp only at *
      have aT := At.fresh wr 32 #[.string ⟨nm.toArray⟩, .int .i64 ow, .slice cA cn ccap, .slice eA en ecap]
      have hbx := below_box wr (.cells #[.string ⟨nm.toArray⟩, .int .i64 ow, .slice cA cn ccap, .slice eA en ecap] 32)
      have hb1 := below_in hbr hbx
      clear hbx
      go_wp2_with fail
      generalize hZ : wr.heap.size = Z at *
      go_loopw [19] (fun iv wx => ∃ m : Nat, m ≤ cn ∧ iv = .int .i64 m ∧ Hid (∀ i, i < m → nm ≠ x → (cols.getD i default).ref = x → x = []) ∧ At wx Z 32 #[.string ⟨nm.toArray⟩, .int .i64 ow, .slice cA cn ccap, .slice eA en ecap] ∧ Below w.heap.size w wx) (fun iv _ => cn - (intOf iv).toNat)
      case atStart => exact ⟨0, by omega, rfl, show ∀ _, _ from fun j h => absurd h (by omega), aT, hb1⟩
      case round =>
        clear aT hb1
        obtain ⟨m, hm, rfl, HM, aT, hbx⟩ := hrel
        by_cases hlm : m < cn
        · obtain ⟨b', off', rfl, hbl', hcell'⟩ := hrow.2.2 (by omega)
          have hcc := (hcell' m hlm).keep fun i => hbx.cell (p := ⟨b', i, none⟩) hbl'
          have HM2 : Hid ((nm ≠ x → (cols.getD m default).ref = x → x = []) → Hid (∀ i, i < m + 1 → nm ≠ x → (cols.getD i default).ref = x → x = [])) := by
            show _ → _
            intro h
            show ∀ _, _
            intro j hj
            by_cases e : j = m
            · rw [e]; exact h
            · exact HM.out j (by omega)
          have HB2 := Lib.hid (HB.out m)
          clear HM HB HS hcell' hrow
          generalize cols.getD m default = c at *
          obtain ⟨cnm, ckd, cnn, cun, crf, cdl⟩ := c
          obtain ⟨d0, d1, d2, d3, d4, d5⟩ := hcc
          simp only at d0 d1 d2 d3 d4 d5 HM2 HB2
          have hb0 := below_box wr (.cells #[.string ⟨cnm.toArray⟩, .int .i64 ckd, .bool cnn, .bool cun, .string ⟨crf.toArray⟩, .int .i64 cdl] 54)
          have hb3 := below_in hbx hb0
          have aT3 := aT.below hb0 aT.lt
          obtain ⟨t0, t1, t2, t3, -⟩ := aT3.four
          clear hb0
          by_cases e1 : nm = x
          · have HE := HM2.out (fun h => absurd e1 h)
            have q1 : (nm == x) = true := by simp [e1]
            subst e1
            clear HM2 HB2
            go_wp2_with fail
            exact ⟨⟨m + 1, by omega, by go_num, HE, aT3, hb3⟩, by simp [intOf]; omega⟩
          · have q1 : (nm == x) = false := by simp [e1]
            by_cases e2 : crf = x
            · have q2 : (crf == x) = true := by simp [e2]
              by_cases e3 : x = []
              · have HE := HM2.out (fun _ _ => e3)
                have q3 : (x.toArray == #[]) = true := by simp [e3]
                have q4 : x.isEmpty = true := by simp [e3]
                have q5 : (x == []) = true := by simp [e3]
                subst e2
                clear HM2 HB2 e3
                go_wp2_with fail
                exact ⟨⟨m + 1, by omega, by go_num, HE, aT3, hb3⟩, by simp [intOf]; omega⟩
              · obtain ⟨r1, r2, r3⟩ := empty_forms e3
                have q3 : (x != []) = true := by simp [e3]
                have HE := Lib.hid (HB2.out e3 e1 e2)
                subst e2
                clear HM2 HB2
                go_wp2_with fail
                go_ret
                exact ⟨HE.out, hb3⟩
            · have q2 : (crf == x) = false := by simp [e2]
              have HE := HM2.out (fun _ h => absurd h e2)
              clear HM2 HB2
              go_wp2_with fail
              exact ⟨⟨m + 1, by omega, by go_num, HE, aT3, hb3⟩, by simp [intOf]; omega⟩
        · obtain rfl : cn = m := by omega
          have HE := HS.out (fun i hi => HM.out i (by omega))
          clear HS HB HM
          go_wp2_with fail
          exact ⟨⟨k + 1, by omega, by go_num, HE, hbx⟩, by simp [intOf]; omega⟩
    · obtain rfl : tn = k := by omega
      have HE := Lib.hid (HN.out (HRN.out HF.out))
      clear HY HN HRN HRS HF
      go_wp2_with fail
      go_ret
      exact ⟨HE.out, hbr⟩
end Go.Proofs.YtnhalfdddcjicaaGreat
