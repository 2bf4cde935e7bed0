/- The walks of isReferredTo and mayRefer. -/
import Derived.Test.YtnhalfdddcjicaaGreatQJaz
namespace Go.Proofs.YtnhalfdddcjicaaGreat
open Go.RowKit

theorem linksT_mem (t : Tb) (x : List UInt8) (l : Lk) : ∀ n, l ∈ linksT t x n ↔ ∃ i, i < n ∧ (t.cols.getD i default).ref = x ∧ l = (t.name, i)
  | 0 => by simp [linksT]
  | n + 1 => by
    rw [linksT, List.mem_append, linksT_mem t x l n]
    constructor
    · rintro (⟨i, h1, h2, h3⟩ | h)
      · exact ⟨i, by omega, h2, h3⟩
      · split at h
        · rename_i e
          exact ⟨n, by omega, e, by simpa using h⟩
        · simp at h
    · rintro ⟨i, h1, h2, h3⟩
      by_cases e : i = n
      · right
        subst e
        rw [if_pos h2, h3]
        simp
      · exact .inl ⟨i, by omega, h2, h3⟩
theorem linksS_mem (tab : Nat → Tb) (x : List UInt8) (l : Lk) : ∀ k, l ∈ linksS tab x k ↔ ∃ j, j < k ∧ l ∈ linksT (tab j) x (tab j).cn
  | 0 => by simp [linksS]
  | k + 1 => by
    rw [linksS, List.mem_append, linksS_mem tab x l k]
    constructor
    · rintro (⟨j, h1, h2⟩ | h)
      · exact ⟨j, by omega, h2⟩
      · exact ⟨k, by omega, h⟩
    · rintro ⟨j, h1, h2⟩
      by_cases e : j = k
      · subst e; exact .inr h2
      · exact .inl ⟨j, by omega, h2⟩
theorem refers_links {s : Sc} (hc : ∀ j, j < s.tn → (s.tab j).cols.length = (s.tab j).cn) (x : List UInt8) : (∃ l ∈ linksOf s x, l.1 ≠ x) ↔ refersS s x := by
  unfold linksOf refersS
  by_cases h0 : x = []
  · rw [if_pos h0]
    simp [h0]
  rw [if_neg h0]
  constructor
  · rintro ⟨l, hl, hx⟩
    rw [linksS_mem] at hl
    obtain ⟨j, hj, hl⟩ := hl
    rw [linksT_mem] at hl
    obtain ⟨i, hi, h1, rfl⟩ := hl
    refine ⟨h0, j, hj, hx, (s.tab j).cols.getD i default, ?_, h1⟩
    rcases getD_mem_or (cs := (s.tab j).cols) i with h | h
    · exact h
    · rw [h1] at h; exact absurd h h0
  · rintro ⟨-, j, hj, hn, c, hm, hr⟩
    obtain ⟨i, hi, rfl⟩ := List.getElem_of_mem hm
    refine ⟨((s.tab j).name, i), ?_, hn⟩
    rw [linksS_mem]
    refine ⟨j, hj, ?_⟩
    rw [linksT_mem]
    refine ⟨i, by rw [← hc j hj]; exact hi, ?_, rfl⟩
    rw [List.getD_eq_getElem?_getD, List.getElem?_eq_getElem hi]
    exact hr

def RowL (w : World) (A : Option Addr) (n : Nat) (ls : List Lk) : Prop := ls.length = n ∧ (0 < n → ∃ g, A = some ⟨g, 0, none⟩ ∧ g < w.heap.size ∧ ∀ j, j < n → w.cell? ⟨g, j * 2, none⟩ = some (.string ⟨(ls.getD j default).1.toArray⟩) ∧ w.cell? ⟨g, j * 2 + 1, none⟩ = some (.int .i64 ((ls.getD j default).2 : Int)))
theorem RowL.of_own {w : World} {base : Nat} {v : Value} {ls : List Lk} (h : w.ownsRow base 135 2 v ls.length (ls.flatMap lkCells)) : ∃ A c, v = .slice A ls.length c ∧ RowL w A ls.length ls := by
  obtain ⟨A, c, rfl, hc⟩ := own_cells lkCells default (fun _ => rfl) ls h rfl
  refine ⟨A, c, rfl, rfl, fun h0 => ?_⟩
  obtain ⟨g, e1, e2, e3, e4⟩ := hc h0
  exact ⟨g, e1, e3, fun j hj => ⟨e4 j hj 0 (by omega), e4 j hj 1 (by omega)⟩⟩

theorem dref1_any (l : Lk) (x : List UInt8) (h : Nat) (w : World) (hc : w.cell? ⟨h, 0, none⟩ = some (.string ⟨x.toArray⟩)) :
    Calls Tryz.prog 102 #[.agg #[.string ⟨l.1.toArray⟩, .int .i64 (l.2 : Int)], .pointer (some ⟨h, 0, none⟩)] w fun e w' => e = .returned (.bool (!decide (l.1 = x))) ∧ Below w.heap.size w w' := by
  have hb := below_box w (.cells #[.string ⟨l.1.toArray⟩, .int .i64 (l.2 : Int)] 135)
  have hlt : h < w.heap.size := World.block_lt_of_cell? w _ hc
  have hne : ¬ h = w.heap.size := by omega
  have hd : (l.1 != x) = !decide (l.1 = x) := by rw [bne, beq_dec]
  go_enter Tryz.func102, Tryz.ntmps102
  go_wp2_with fail
  go_ret
  exact ⟨ret_b hd, hb⟩
set_option maxRecDepth 100000 in
set_option maxHeartbeats 1600000 in
theorem didxL_any (A : Option Addr) (n cap : Nat) (ls : List Lk) (x : List UInt8) (h : Nat) (w : World) (hr : RowL w A n ls) (hn : n ≤ maxLen) (hc : w.cell? ⟨h, 0, none⟩ = some (.string ⟨x.toArray⟩)) :
    Calls Tryz.prog 123 #[.slice A n cap, .func (.func 102) #[] #[.pointer (some ⟨h, 0, none⟩)]] w fun e w' => (∃ r : Int, e = .returned (.int .i64 r) ∧ (0 ≤ r ↔ ∃ l ∈ ls, l.1 ≠ x)) ∧ Below w.heap.size w w' := by
  have HR : Hid (∀ r : Int, (0 ≤ r ↔ ∃ l ∈ ls, l.1 ≠ x) → ∃ r' : Int, Ending.returned (Value.int .i64 r) = .returned (.int .i64 r') ∧ (0 ≤ r' ↔ ∃ l ∈ ls, l.1 ≠ x)) := by
    show ∀ _, _
    exact fun r h => ⟨r, rfl, h⟩
  unfold maxLen at hn
  have hll := hr.1
  have hlt : h < w.heap.size := World.block_lt_of_cell? w _ hc
  go_enter Tryz.func123, Tryz.ntmps123
  go_wp2_with fail
  go_loopw [8] (fun i wr => ∃ k : Nat, k ≤ n ∧ i = .int .i64 k ∧ Below w.heap.size w wr ∧ Hid (∀ j, j < k → (ls.getD j default).1 = x)) (fun i _ => n - (intOf i).toNat)
  case atStart => exact ⟨0, by omega, rfl, Below.refl _ _, show ∀ _, _ from fun j h => absurd h (by omega)⟩
  case round =>
    obtain ⟨k, hk, rfl, hbr, HF⟩ := hrel
    by_cases hkn : k < n
    · obtain ⟨b, rfl, hbl, hcell⟩ := hr.2 (by omega)
      obtain ⟨c0, c1⟩ := hcell k hkn
      have d0 := (hbr.cell (p := ⟨b, k * 2, none⟩) hbl).trans c0
      have d1 := (hbr.cell (p := ⟨b, k * 2 + 1, none⟩) hbl).trans c1
      have hcr := (hbr.cell (p := ⟨h, 0, none⟩) hlt).trans hc
      have hp := dref1_any (ls.getD k default) x h wr hcr
      have HN : Hid ((ls.getD k default).1 = x → Hid (∀ j, j < k + 1 → (ls.getD j default).1 = x)) := by
        show _ → _
        intro e
        show ∀ _, _
        intro j hj
        by_cases ej : j = k
        · rw [ej]; exact e
        · exact HF.out j (by omega)
      have HY : Hid ((ls.getD k default).1 ≠ x → ∃ l ∈ ls, l.1 ≠ x) := by
        show _ → _
        intro e
        refine ⟨_, ?_, e⟩
        rw [List.getD_eq_getElem?_getD, List.getElem?_eq_getElem (by omega)]
        exact List.getElem_mem _
      have HQ := fun h => HR.out (k : Int) ⟨fun _ => h, fun _ => by omega⟩
      have HQ2 := Lib.hid HQ
      clear hcell hr HF hc hcr HQ c0 c1
      generalize ls.getD k default = l at *
      obtain ⟨ln, li⟩ := l
      simp only at d0 d1 hp HN HY
      go_wp2_with fail
      refine hp.mono ?_
      rintro e w2 ⟨rfl, b2⟩
      have hb2 := below_in hbr b2
      by_cases he : ln = x
      · have hd : (!decide (ln = x)) = false := by simpa using he
        have HE := HN.out he
        clear HN HY
        go_wp2_with fail
        exact ⟨⟨k + 1, by omega, by go_num, hb2, HE⟩, by simp [intOf]; omega⟩
      · have hd : (!decide (ln = x)) = true := by simpa using he
        have HE := Lib.hid (HQ2.out (HY.out he))
        clear HN HY HQ2
        go_wp2_with fail
        go_ret
        exact ⟨HE.out, hb2⟩
    · obtain rfl : k = n := by omega
      have HE := Lib.hid (HR.out (-1) ⟨fun h => absurd h (by omega), fun ⟨l, hl, hx⟩ => by
        obtain ⟨j, hj, rfl⟩ := List.getElem_of_mem hl
        have := HF.out j (by omega)
        rw [List.getD_eq_getElem?_getD, List.getElem?_eq_getElem hj] at this
        exact absurd this hx⟩)
      clear HF
      go_wp2_with fail
      go_ret
      exact ⟨HE.out, hbr⟩
set_option maxHeartbeats 800000 in
theorem dhasL_any (A : Option Addr) (n cap : Nat) (ls : List Lk) (x : List UInt8) (h : Nat) (w : World) (hr : RowL w A n ls) (hn : n ≤ maxLen) (hc : w.cell? ⟨h, 0, none⟩ = some (.string ⟨x.toArray⟩)) :
    Calls Tryz.prog 100 #[.slice A n cap, .func (.func 102) #[] #[.pointer (some ⟨h, 0, none⟩)]] w fun e w' => (∃ B : Bool, e = .returned (.bool B) ∧ (B = true ↔ ∃ l ∈ ls, l.1 ≠ x)) ∧ Below w.heap.size w w' := by
  have hi := didxL_any A n cap ls x h w hr hn hc
  go_enter Tryz.func100, Tryz.ntmps100
  go_wp2_with fail
  refine hi.mono ?_
  rintro e w2 ⟨⟨r, rfl, hr2⟩, b2⟩
  have HR := Lib.hid hr2
  clear hr2
  go_wp2_with fail
  go_ret
  exact ⟨⟨_, rfl, by rw [decide_eq_true_iff]; exact HR.out⟩, b2⟩

set_option maxRecDepth 100000 in
set_option maxHeartbeats 1600000 in
theorem isRef_any (s : Sc) (x : List UInt8) (w : World) (hs : InS w s) (hw : wtS s ≤ 1048576) :
    Calls Tryz.prog 73 #[s.val, .string ⟨x.toArray⟩] w fun e w' => (∃ B : Bool, e = .returned (.bool B) ∧ (B = true ↔ refersS s x)) ∧ Below w.heap.size w w' := by
  have hm := hmf
  have hiff := Lib.hid (refers_links (fun j hj => cols_len hs hj) x)
  have hlen : (linksOf s x).length ≤ 1048576 := by
    unfold linksOf
    split
    · simp
    · refine Nat.le_trans (linksS_len _ _ _) (Nat.le_trans (sumN_mono fun j _ => ?_) (Nat.le_trans (show sumN s.tn (fun j => wtT (s.tab j)) ≤ wtS s by unfold wtS; omega) hw))
      have := len_sum (n := (s.tab j).cn) (f := fun i => wtC ((s.tab j).cols.getD i default)) fun i _ => by unfold wtC; omega
      unfold wtT
      omega
  have b0 := below_box w (.cells #[.int .i64 s.ver, .slice s.tA s.tn s.tcap, .slice s.gA s.gn s.gcap] 25)
  have b1 := below_box (w.alloc (.cells #[.int .i64 s.ver, .slice s.tA s.tn s.tcap, .slice s.gA s.gn s.gcap] 25)) (.cells #[.string ⟨x.toArray⟩] 9)
  have hA := At.fresh (w.alloc (.cells #[.int .i64 s.ver, .slice s.tA s.tn s.tcap, .slice s.gA s.gn s.gcap] 25)) 9 #[.string ⟨x.toArray⟩]
  rw [show (w.alloc (.cells #[.int .i64 s.ver, .slice s.tA s.tn s.tcap, .slice s.gA s.gn s.gcap] 25)).heap.size = w.heap.size + 1 by simp] at hA
  have hb := below_in b0 b1
  have hL := links_any s x _ (hs.below hb) hw
  unfold Sc.val at hL ⊢
  clear b0 b1
  generalize linksOf s x = L at *
  go_enter Tryz.func73, Tryz.ntmps73
  go_wp2_with fail
  refine hL.mono ?_
  rintro e w2 ⟨v, rfl, hown, b2⟩
  obtain ⟨A2, c2, rfl, hrow⟩ := RowL.of_own hown
  have hA2 := hA.below b2 hA.lt
  have hC := dhasL_any A2 L.length c2 L x (w.heap.size + 1) w2 hrow (by unfold maxLen; omega) (hA2.cell 0)
  have hb2 := below_in hb b2
  clear hL hown hrow hA
  go_wp2_with fail
  refine hC.mono ?_
  rintro e w3 ⟨⟨B, rfl, hB⟩, b3⟩
  have hb3 := below_in hb2 b3
  have HB := Lib.hid (hB.trans hiff.out)
  clear hB hC hiff
  go_wp2_with fail
  go_ret
  exact ⟨⟨B, rfl, HB.out⟩, hb3⟩

def RefE (s : Sc) (role : Int) (d : Tb) (e : Ending) : Prop := ∃ B : Bool, e = .returned (.bool B) ∧ (SortedG s.grants → (B = true ↔ refsOk s role d))
set_option maxRecDepth 100000 in
set_option maxHeartbeats 3200000 in
theorem mayRef_any (s : Sc) (role : Int) (d : Tb) (w : World) (hs : InS w s) (hd : InT w d) :
    Calls Tryz.prog 71 #[s.val, .int .i64 role, d.val] w fun e w' => RefE s role d e ∧ Below w.heap.size w w' := by
  have HY : Hid ((SortedG s.grants → refsOk s role d) → RefE s role d (.returned (.bool true))) := by
    show _ → _
    exact fun h => ⟨true, rfl, fun hs' => ⟨fun _ => h hs', fun _ => rfl⟩⟩
  have HN : Hid ((SortedG s.grants → ¬ refsOk s role d) → RefE s role d (.returned (.bool false))) := by
    show _ → _
    exact fun h => ⟨false, rfl, fun hs' => ⟨fun k => (by cases k), fun k => absurd k (h hs')⟩⟩
  have HK : Hid (refsOk s role d ↔ ∀ j, j < d.cn → (d.cols.getD j default).ref ≠ [] → (d.cols.getD j default).ref ≠ d.name → MayP s role (d.cols.getD j default).ref 16) := by
    show _ ↔ _
    unfold refsOk
    constructor
    · intro h j hj
      refine h _ ?_
      rw [List.getD_eq_getElem?_getD, List.getElem?_eq_getElem (by rw [hd.cols.1]; exact hj)]
      exact List.getElem_mem _
    · intro h c hc
      obtain ⟨j, hj, rfl⟩ := List.getElem_of_mem hc
      have := h j (by rw [← hd.cols.1]; exact hj)
      rw [List.getD_eq_getElem?_getD, List.getElem?_eq_getElem hj] at this
      exact this
  have b0 := below_box w (.cells #[.int .i64 s.ver, .slice s.tA s.tn s.tcap, .slice s.gA s.gn s.gcap] 25)
  have aS := (At.fresh w 25 #[.int .i64 s.ver, .slice s.tA s.tn s.tcap, .slice s.gA s.gn s.gcap]).alloc (.cells #[.string ⟨d.name.toArray⟩, .int .i64 d.owner, .slice d.cA d.cn d.ccap, .slice d.eA d.en d.ecap] 32)
  have aT := At.fresh (w.alloc (.cells #[.int .i64 s.ver, .slice s.tA s.tn s.tcap, .slice s.gA s.gn s.gcap] 25)) 32 #[.string ⟨d.name.toArray⟩, .int .i64 d.owner, .slice d.cA d.cn d.ccap, .slice d.eA d.en d.ecap]
  rw [World.size_alloc] at aT
  have b1 := b0.alloc b0.size (.cells #[.string ⟨d.name.toArray⟩, .int .i64 d.owner, .slice d.cA d.cn d.ccap, .slice d.eA d.en d.ecap] 32)
  have hM := fun x w' (b : Below w.heap.size w w') => gmay_any s role x 16 w' (hs.below b)
  unfold MayE at hM
  have hcm := hd.cmax
  have hrow := hd.cols
  unfold maxLen at hcm
  clear b0 hs hd
  generalize MayP s role = MP at *
  generalize RefE s role d = RE at *
  generalize refsOk s role d = RO at *
  generalize SortedG s.grants = SG at *
  unfold Sc.val at hM ⊢
  unfold Tb.val
  obtain ⟨nm, ow, cA, cn, ccap, cols, eA, en, ecap, chk⟩ := d
  simp only at *
  go_enter Tryz.func71, Tryz.ntmps71
  go_wp2_with fail
  go_loopw [13] (fun i wr => ∃ k : Nat, k ≤ cn ∧ i = .int .i64 k ∧ Hid (SG → ∀ j, j < k → (cols.getD j default).ref ≠ [] → (cols.getD j default).ref ≠ nm → MP (cols.getD j default).ref 16) ∧ At wr w.heap.size 25 #[.int .i64 s.ver, .slice s.tA s.tn s.tcap, .slice s.gA s.gn s.gcap] ∧
    At wr (w.heap.size + 1) 32 #[.string ⟨nm.toArray⟩, .int .i64 ow, .slice cA cn ccap, .slice eA en ecap] ∧ Below w.heap.size w wr) (fun i _ => cn - (intOf i).toNat)
  case atStart => exact ⟨0, by omega, rfl, show _ → _ from fun _ j h => absurd h (by omega), aS, aT, b1⟩
  case round =>
    clear aS aT b1
    obtain ⟨k, hk, rfl, HF, aS, aT, hbr⟩ := hrel
    by_cases hkn : k < cn
    · obtain ⟨b, off, rfl, hbl, hcell⟩ := hrow.2.2 (by omega)
      have hcl := (hcell k hkn).keep fun i => hbr.cell (p := ⟨b, i, none⟩) hbl
      have HS : Hid ((SG → (cols.getD k default).ref ≠ [] → (cols.getD k default).ref ≠ nm → MP (cols.getD k default).ref 16) → Hid (SG → ∀ j, j < k + 1 → (cols.getD j default).ref ≠ [] → (cols.getD j default).ref ≠ nm → MP (cols.getD j default).ref 16)) := by
        show _ → _
        intro h
        show _ → _
        intro sg j hj
        by_cases e : j = k
        · rw [e]; exact h sg
        · exact HF.out sg j (by omega)
      have HB : Hid ((cols.getD k default).ref ≠ [] → (cols.getD k default).ref ≠ nm → (SG → ¬ MP (cols.getD k default).ref 16) → RE (.returned (.bool false))) := by
        show _ → _ → _ → _
        intro h1 h2 h3
        exact HN.out fun sg ro => h3 sg (HK.out.1 ro k hkn h1 h2)
      clear HF HY HN HK hcell hrow
      generalize cols.getD k default = c at *
      obtain ⟨cnm, ckd, cnn, cun, crf, cdl⟩ := c
      obtain ⟨c0, c1, c2, c3, c4, c5⟩ := hcl
      simp only at c0 c1 c2 c3 c4 c5 HS HB
      have hb0 := below_box wr (.cells #[.string ⟨cnm.toArray⟩, .int .i64 ckd, .bool cnn, .bool cun, .string ⟨crf.toArray⟩, .int .i64 cdl] 54)
      have hbx := below_in hbr hb0
      have aS3 := aS.below hb0 aS.lt
      have aT3 := aT.below hb0 aT.lt
      obtain ⟨s0, s1, s2⟩ := aS3.tri0
      obtain ⟨t0, t1, t2, t3, -⟩ := aT3.four
      clear hb0
      by_cases e0 : crf = []
      · have HE := HS.out (fun _ h => absurd e0 h)
        subst e0
        clear HS HB
        go_wp2_with fail
        exact ⟨⟨k + 1, by omega, by go_num, HE, aS3, aT3, hbx⟩, by simp [intOf]; omega⟩
      · obtain ⟨r1, r2, r3⟩ := empty_forms e0
        have q1 : (crf != []) = true := by simp [e0]
        by_cases e1 : crf = nm
        · have HE := HS.out (fun _ _ h => absurd e1 h)
          have q2 : (crf != nm) = false := by simp [e1]
          subst e1
          clear HS HB
          go_wp2_with fail
          exact ⟨⟨k + 1, by omega, by go_num, HE, aS3, aT3, hbx⟩, by simp [intOf]; omega⟩
        · have q2 : (crf == nm) = false := by simp [e1]
          have HS2 : Hid ((SG → MP crf 16) → _) := fun h => HS.out (fun sg _ _ => h sg)
          have HB2 := Lib.hid (HB.out e0 e1)
          have hMc := hM crf _ hbx
          clear HS HB hM
          go_wp2_with fail
          refine hMc.mono ?_
          rintro e w2 ⟨⟨B, rfl, hB⟩, b2⟩
          have hb2 := below_in hbx b2
          have aS4 := aS3.below b2 aS3.lt
          have aT4 := aT3.below b2 aT3.lt
          cases B with
          | true =>
            have HE := HS2.out (fun sg => (hB sg).1 rfl)
            clear HS2 HB2 hB
            go_wp2_with fail
            exact ⟨⟨k + 1, by omega, by go_num, HE, aS4, aT4, hb2⟩, by simp [intOf]; omega⟩
          | false =>
            have HE := Lib.hid (HB2.out (fun sg m => by have := (hB sg).2 m; cases this))
            clear HS2 HB2 hB
            go_wp2_with fail
            go_ret
            exact ⟨HE.out, hb2⟩
    · obtain rfl : cn = k := by omega
      have HE := Lib.hid (HY.out (fun sg => HK.out.2 (HF.out sg)))
      clear HY HN HK HF
      go_wp2_with fail
      go_ret
      exact ⟨HE.out, hbr⟩
end Go.Proofs.YtnhalfdddcjicaaGreat
