/- The walk of the law SchemaLinks. -/
import Derived.Test.YtmlgochblmbkaaaScLk
namespace Go.Proofs.Ytmlgochblmbkaaa
open Go.RowKit

theorem pre_get {P L : List Lk} {x : Lk} (h : P ++ [x] <+: L) : P.length < L.length ∧ ∀ d, L.getD P.length d = x := by
  obtain ⟨r, rfl⟩ := h
  refine ⟨by simp, fun d => ?_⟩
  rw [List.getD_eq_getElem?_getD, List.append_assoc, List.getElem?_append_right (Nat.le_refl _)]
  simp
theorem lkCells_len (a : Lk) : (lkCells a).length = 2 := rfl

theorem cols_sum (s : Sc) : sumN s.tn (fun j => (s.tab j).cn) ≤ wtS s := by
  refine Nat.le_trans (sumN_mono fun j _ => ?_) (show sumN s.tn (fun j => wtT (s.tab j)) ≤ wtS s by unfold wtS; omega)
  have hone : (s.tab j).cn ≤ sumN (s.tab j).cn (fun i => wtC ((s.tab j).cols.getD i default)) := by
    have : ∀ n (f : Nat → Nat), (∀ i, 1 ≤ f i) → n ≤ sumN n f := fun n f hf => by
      induction n with
      | zero => omega
      | succ n ih => rw [sumN_succ]; have := hf n; omega
    exact this _ _ fun i => by unfold wtC; omega
  unfold wtT
  omega

set_option maxRecDepth 100000 in
set_option maxHeartbeats 6400000 in
theorem schemaLinks_main (s : Sc) (name : List UInt8) (w : World) (hs : InS w s) (hw : wtS s ≤ 1048576) (_hl : name.length ≤ maxLen) (_hl2 : name.length ≤ 1048576) :
    Calls Try.prog 4 #[s.val, .string ⟨name.toArray⟩] w fun e w' => e = .returned (.bool true) ∧ Below w.heap.size w w' := by
  have b0 := below_box w (.cells #[.int .i64 s.ver, .slice s.tA s.tn s.tcap, .slice s.gA s.gn s.gcap] 29)
  have aS := At.fresh w 29 #[.int .i64 s.ver, .slice s.tA s.tn s.tcap, .slice s.gA s.gn s.gcap]
  have hG := fun w1 (b1 : Below w.heap.size w w1) => sgreat_any s w1 (hs.below b1)
  have hL := fun w1 (b1 : Below w.heap.size w w1) => links_any s name w1 (hs.below b1) hw
  have hla := linksS_len s.tab name s.tn
  have hsm := cols_sum s
  have hlm : (linksOf s name).length ≤ 1048576 := by unfold linksOf; split; exact Nat.zero_le _; omega
  have HO : Hid (linksOf s name = if name = [] then [] else linksS s.tab name s.tn) := rfl
  have htm := hs.tmax
  have hT := hs.tabs
  unfold maxLen at htm
  clear hs hw _hl _hl2 hla hsm
  obtain ⟨ver, tA, tn, tcap, tab, gA, gn, gcap, gs⟩ := s
  generalize linksOf ⟨ver, tA, tn, tcap, tab, gA, gn, gcap, gs⟩ name = L at *
  unfold Sc.val at *
  simp only at *
  go_enter Try.func4, Try.ntmps4
  go_wp2_with fail
  refine (alive_any _).mono ?_
  rintro e w1 ⟨rfl, b1⟩
  have hb1 := below_in b0 b1
  have aS1 := aS.below b1 aS.lt
  obtain ⟨s0, s1, s2, -⟩ := aS1.three
  go_wp2_with fail
  refine (hG _ hb1).mono ?_
  rintro e w2 ⟨⟨y, rfl⟩, b2⟩
  have hb2 := below_in hb1 b2
  have aS2 := aS1.below b2 aS1.lt
  clear aS aS1 s0 s1 s2 b0 b1 b2 hb1 hG
  obtain ⟨s0, s1, s2, -⟩ := aS2.three
  cases y with
  | true =>
    go_wp2_with fail
    go_ret
    exact ⟨rfl, hb2⟩
  | false =>
  go_wp2_with fail
  · go_ret
    exact ⟨rfl, hb2⟩
  refine (hL _ hb2).mono ?_
  rintro e w3 ⟨v, rfl, hown, b3⟩
  have hb3 := below_in hb2 b3
  have aS3 := aS2.below b3 aS2.lt
  obtain ⟨vA, vc, rfl, hcells⟩ := own_cells lkCells ([], 0) lkCells_len L hown rfl
  clear aS2 s0 s1 s2 b3 hL hown
  obtain ⟨s0, s1, s2, -⟩ := aS3.three
  go_wp2_with fail
  go_loopw [6, 26] (fun nv i wr => ∃ (k : Nat), k ≤ tn ∧ i = .int .i64 k ∧ nv = .int .i64 (((if name = [] then [] else linksS tab name k : List Lk).length : Nat) : Int) ∧ Below w3.heap.size w3 wr) (fun _ i _ => tn - (intOf i).toNat)
  case atStart => exact ⟨0, by omega, rfl, by simp [linksS], Below.refl _ _⟩
  case round =>
    obtain ⟨k, hk, rfl, rfl, hbr⟩ := hrel
    have hbw := below_in hb3 hbr
    by_cases hlt : k < tn
    · obtain ⟨b, off, rfl, hbl, hcell⟩ := hT (by omega)
      obtain ⟨hcl, hin⟩ := hcell k hlt
      obtain ⟨c0, c1, c2, c3⟩ := hcl.keep fun i => hbw.cell (p := ⟨b, i, none⟩) hbl
      have HS : Hid ((if name = [] then [] else linksS tab name (k + 1) : List Lk) = if name = [] then [] else linksS tab name k ++ linksT (tab k) name (tab k).cn) := rfl
      have HX : ∀ k', k' < (tab k).cn → Hid (name ≠ [] → ((tab k).cols.getD k' default).ref = name → (if name = [] then [] else linksS tab name k : List Lk) ++ linksT (tab k) name k' ++ [((tab k).name, k')] <+: L) := fun k' hk' hne e => by
        have h1 := links_next tab name hlt hk' e
        rw [if_neg hne, HO.out, if_neg hne]
        exact h1
      have hPl : (if name = [] then [] else linksS tab name k : List Lk).length ≤ 1048576 := by
        split
        · simp
        · rename_i hne
          have := (linksS_pre tab name (Nat.le_of_lt hlt)).length_le
          rw [HO.out, if_neg hne] at hlm
          omega
      have hne0 : ∀ T : List Lk, (if name = [] then [] else linksS tab name k ++ T : List Lk) = (if name = [] then [] else linksS tab name k : List Lk) ++ (if name = [] then [] else T) := fun T => by split <;> simp
      rw [hne0] at HS
      clear hne0
      have hLTn : ∀ n, Hid (linksT (tab k) name (n + 1) = linksT (tab k) name n ++ (if ((tab k).cols.getD n default).ref = name then [((tab k).name, n)] else [])) := fun _ => rfl
      have hLT := linksT_len (tab k) name
      have hLT0 : linksT (tab k) name 0 = [] := rfl
      clear hcell hcl
      generalize (if name = [] then [] else linksS tab name k : List Lk) = P at *
      generalize linksT (tab k) name = LT at *
      generalize tab k = t at *
      have hcols := hin.cols
      have hcm := hin.cmax
      unfold maxLen at hcm
      clear hin
      obtain ⟨nm, ow, cA, cn, ccap, cols, eA, en, ecap, chk⟩ := t
      simp only at c0 c1 c2 c3 hcm hcols HS hLTn HX
      have aT := At.fresh wr 25 #[.string ⟨nm.toArray⟩, .int .i64 ow, .slice cA cn ccap, .slice eA en ecap]
      have hb1 := hbr.alloc hbr.size (.cells #[.string ⟨nm.toArray⟩, .int .i64 ow, .slice cA cn ccap, .slice eA en ecap] 25)
      go_wp2_with fail
      go_loopw [6, 33] (fun nv i wx => ∃ (k' : Nat), k' ≤ cn ∧ i = .int .i64 k' ∧ nv = .int .i64 (((P ++ (if name = [] then [] else LT k')).length : Nat) : Int) ∧ Below w3.heap.size w3 wx ∧
        At wx wr.heap.size 25 #[.string ⟨nm.toArray⟩, .int .i64 ow, .slice cA cn ccap, .slice eA en ecap]) (fun _ i _ => cn - (intOf i).toNat)
      case atStart => exact ⟨0, by omega, rfl, by simp [hLT0], hb1, aT⟩
      case round =>
        clear hb1 aT c0 c1 c2 c3 hbr hbw
        obtain ⟨k', hk', rfl, rfl, hbx, aT⟩ := hrel
        have hbw := below_in hb3 hbx
        by_cases hlt' : k' < cn
        · obtain ⟨b', off', rfl, hbl', hc'⟩ := hcols.2.2 (by omega)
          have hcell' := (hc' k' hlt').keep fun i => hbw.cell (p := ⟨b', i, none⟩) hbl'
          have HN := hLTn k'
          have HXk := HX k' hlt'
          have hLk := hLT k'
          clear hc' hLTn hLT HX
          generalize cols.getD k' default = c at *
          obtain ⟨d0, d1, d2, d3, d4, d5⟩ := hcell'
          have hby := fun o => hbx.alloc hbx.size o
          have aTy := fun o => aT.alloc o
          have hne' := Nat.ne_of_lt aT.lt
          have hltx := aT.lt
          obtain ⟨t0, -⟩ := aT.four
          by_cases hnm : name = []
          · have r1 : (name.toArray == #[]) = true := by rw [hnm]; rfl
            have r2 : name.isEmpty = true := by rw [hnm]; rfl
            have HP := Lib.hid (show (P ++ (if name = [] then [] else LT k')).length = P.length by rw [if_pos hnm, List.append_nil])
            have HP2 := Lib.hid (show (P ++ (if name = [] then [] else LT (k' + 1))).length = P.length by rw [if_pos hnm, List.append_nil])
            rw [HP.out]
            clear HP hnm HXk HN
            go_wp2_with fail
            exact ⟨⟨k' + 1, by omega, by go_num, by rw [HP2.out], hby _, aTy _⟩, by simp [intOf]; omega⟩
          obtain ⟨r1, r2, r3⟩ := empty_forms hnm
          have e1 : (if name = [] then [] else LT k') = LT k' := if_neg hnm
          have e2 : (if name = [] then [] else LT (k' + 1)) = LT (k' + 1) := if_neg hnm
          rw [e1]
          by_cases he : c.ref = name
          · have hd : (c.ref == name) = true := by simpa using he
            have HN2 := Lib.hid (HN.out.trans (by rw [if_pos he]))
            have hpre := HXk.out hnm he
            obtain ⟨hlt3, hget⟩ := pre_get hpre
            have HE2 := Lib.hid (show (P ++ (if name = [] then [] else LT (k' + 1))).length = (P ++ LT k').length + 1 by rw [e2, HN2.out]; simp only [List.length_append, List.length_cons, List.length_nil]; omega)
            clear HN he HXk hpre e1 e2 hnm HN2
            obtain ⟨g, rfl, hg0, hgl, hcl⟩ := hcells (by omega)
            have hj := (P ++ LT k').length
            have q0 := hcl _ hlt3 0 (by omega)
            have q1 := hcl _ hlt3 1 (by omega)
            rw [hget] at q0 q1
            have q0 : wr.cell? ⟨g, (P ++ LT k').length * 2 + 0, none⟩ = some (.string ⟨nm.toArray⟩) := (hbx.cell (p := ⟨g, (P ++ LT k').length * 2 + 0, none⟩) hgl).trans q0
            have q1 : wr.cell? ⟨g, (P ++ LT k').length * 2 + 1, none⟩ = some (.int .i64 (k' : Int)) := (hbx.cell (p := ⟨g, (P ++ LT k').length * 2 + 1, none⟩) hgl).trans q1
            rw [Nat.add_zero] at q0
            generalize (P ++ LT k').length = m at *
            have hgd : decide ((L.length : Int) ≤ (m : Int)) = false := by simp; omega
            have hmL : (m : Int) < (L.length : Int) := by omega
            have hgl' := Nat.lt_of_lt_of_le hgl hbx.size
            have hgn := Nat.ne_of_lt hgl'
            clear hcl hcells hget
            go_wp2_with fail
            go_quiet (fail)
            go_wp2_with fail
            exact ⟨⟨k' + 1, by omega, by go_num, by rw [HE2.out]; go_num, below_nq (hby _) _, (aTy (.cells #[.string ⟨c.name.toArray⟩, .int .i64 c.kind, .bool c.nn, .bool c.un, .string ⟨c.ref.toArray⟩, .int .i64 c.del] 46)).keep rfl⟩, by simp [intOf]; omega⟩
          · have hd : (c.ref == name) = false := by simpa using he
            have HN2 := Lib.hid (show (P ++ (if name = [] then [] else LT (k' + 1))).length = (P ++ LT k').length by rw [e2, HN.out, if_neg he, List.append_nil])
            clear HN he HXk e1 e2 hnm
            go_wp2_with fail
            exact ⟨⟨k' + 1, by omega, by go_num, by rw [HN2.out], hby _, aTy _⟩, by simp [intOf]; omega⟩
        · obtain rfl : k' = cn := by omega
          clear hcols hLTn hLT
          go_wp2_with fail
          exact ⟨⟨k + 1, by omega, by go_num, by rw [HS.out], hbx⟩, by simp [intOf]; omega⟩
    · obtain rfl : k = tn := by omega
      rw [← HO.out]
      go_wp2_with fail
      go_ret
      exact ⟨ret_b (by simp), hbw⟩
end Go.Proofs.Ytmlgochblmbkaaa
