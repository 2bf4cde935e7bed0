/- The walk of the law DdlApplies. -/
/- What the bound of the second form gives: how many letters a slice of strings holds. -/
import Derived.Test.YtnhalfdddcjicaaGreatQJbh
import Derived.Test.YtnhalfdddcjicaaGreatQJat
import Derived.Test.YtnhalfdddcjicaaGreatQJaq
import Derived.Deep.RegionHeld3
import Derived.Test.YtnhalfdddcjicaaGreatRows
namespace Go.Proofs.YtnhalfdddcjicaaGreat
open Go.RowKit

theorem app_like {s a b : Sc} {role : Int} {st : St} {e e' : Int} {w : World} (ha : InS w a) (hb : InS w b) (hs : SortedG s.grants) (h : AppF s role st e a) (h' : AppF s role st e' b) : e = e' ∧ simS a b := by
  obtain ⟨h1, h2⟩ := h.one hs h'
  exact ⟨h1, simS_tree ha hb h2⟩

set_option maxRecDepth 100000 in
set_option maxHeartbeats 12800000 in
theorem ddlApplies_main (s : Sc) (role : Int) (st : St) (w : World) (hs : InS w s) (hw : wtS s ≤ 1048576) (hcap : s.gn ≤ s.gcap) (hrole : I64 role) (hst : InSt w st) (hsum : wtS s + wtT st.def_ + st.table.length ≤ 1048576) :
    Calls Tryz.prog 3 #[s.val, .int .i64 role, st.val] w fun e w' => e = .returned (.bool true) ∧ Below w.heap.size w w' := by
  have b1 := below_box w (.cells #[.int .i64 s.ver, .slice s.tA s.tn s.tcap, .slice s.gA s.gn s.gcap] 25)
  have aS := At.fresh w 25 #[.int .i64 s.ver, .slice s.tA s.tn s.tcap, .slice s.gA s.gn s.gcap]
  have b2 := below_box (w.alloc (.cells #[.int .i64 s.ver, .slice s.tA s.tn s.tcap, .slice s.gA s.gn s.gcap] 25)) (.cells st.cells 34)
  have aT := At.fresh (w.alloc (.cells #[.int .i64 s.ver, .slice s.tA s.tn s.tcap, .slice s.gA s.gn s.gcap] 25)) 34 st.cells
  have aS2 := aS.below b2 aS.lt
  have bb := below_in b1 b2
  obtain ⟨W, hW⟩ : ∃ W, (w.alloc (.cells #[.int .i64 s.ver, .slice s.tA s.tn s.tcap, .slice s.gA s.gn s.gcap] 25)).alloc (.cells st.cells 34) = W := ⟨_, rfl⟩
  rw [hW] at aT aS2 bb
  simp only [World.size_alloc] at aT
  have HW := Lib.hid hW
  clear hW b1 b2 aS
  have hG := fun w1 (b : Below w.heap.size w w1) => dgreat_any s st w1 (hs.below b) (hst.below b) hw
  have hSo := fun w1 (b : Below w.heap.size w w1) => rsorted_any s.gA s.gn s.gcap s.grants w1 (hs.below b).grants hs.gmax hcap
  have hw3 : 3 ≤ wtS s := by unfold wtS; omega
  have hDa := fun w1 (b : Below w.heap.size w w1) (hg : s.gn ≤ 1000) (hn : s.tn ≤ 1000) => dapply_any s role st w1 (hs.below b) (hst.below b) hrole hw (by omega) (by omega) hg hn
  have hRa := fun w1 (b : Below w.heap.size w w1) hn hso => rApply_any s role st w1 (hs.below b) (hst.below b) hrole (by omega) (show s.tn ≤ 100000 from hn) hso (fun X hX => app_len (hs.below b) (hst.below b) hrole (by omega) hX)
  have hIs := fun w1 => dis_any st w1
  have HV : Hid (st.val = .agg st.cells) := rfl
  obtain ⟨D, hD⟩ : ∃ D, decide (SortedG s.grants) = D := ⟨_, rfl⟩
  rw [hD] at hSo
  have HD := Lib.hid hD
  have hk := Lib.hid (show isD st.kind = (decide (6 ≤ st.kind) && decide (st.kind ≤ 9)) from rfl)
  clear hD
  clear hs hst hw hw3 hsum hcap hrole
  unfold Sc.val at *
  rw [HV.out] at hG hDa hRa hIs ⊢
  go_enter Tryz.func3, Tryz.ntmps3
  go_wp2_with fail
  rw [HW.out]
  clear HW
  refine (dalive_any _).mono ?_
  rintro e w1 ⟨rfl, k1⟩
  have bb1 := below_in bb k1
  have aS1 := aS2.below k1 aS2.lt
  have aT1 := aT.below k1 aT.lt
  clear aS2 aT bb k1
  obtain ⟨s0, s1, s2⟩ := aS1.tri0
  go_wp2_with (refine wpList_load_st rfl (.tmp 5) rfl (w.heap.size + 1) st rfl aT1 ?_)
  refine (hG _ bb1).mono ?_
  rintro e w2 ⟨⟨B, rfl, hB⟩, k2⟩
  have bb2 := below_in bb1 k2
  have aS2 := aS1.below k2 aS1.lt
  have aT2 := aT1.below k2 aT1.lt
  clear aS1 aT1 bb1 k2 s0 s1 s2 hG
  obtain ⟨s0, s1, s2⟩ := aS2.tri0
  cases B with
  | true =>
    go_wp2_with fail
    go_ret
    exact ⟨rfl, bb2⟩
  | false =>
    have hn := hB rfl
    have HN : Hid (s.tn ≤ 1000 ∧ s.tn ≤ 100000 ∧ s.gn ≤ 1000) := show _ ∧ _ from ⟨by omega, by omega, by omega⟩
    clear hB hn
    go_wp2_with fail
    refine (hSo _ bb2).mono ?_
    rintro e w3 ⟨rfl, k3⟩
    have bb3 := below_in bb2 k3
    have aS3 := aS2.below k3 aS2.lt
    have aT3 := aT2.below k3 aT2.lt
    clear aS2 aT2 bb2 k3 s0 s1 s2 hSo
    obtain ⟨s0, s1, s2⟩ := aS3.tri0
    cases D with
    | false =>
      go_wp2_with fail
      go_ret
      exact ⟨rfl, bb3⟩
    | true =>
      have HS : Hid (SortedG s.grants) := Lib.hid (of_decide_eq_true HD.out)
      clear HD
      have hD1 := hDa _ bb3 HN.out.2.2 HN.out.1
      go_wp2_with (refine wpList_load_st rfl (.tmp 5) rfl (w.heap.size + 1) st rfl aT3 ?_)
      refine hD1.mono ?_
      rintro e w4 ⟨⟨oa, ea, rfl, hoa, hFa⟩, k4⟩
      have bb4 := below_in bb3 k4
      have aS4 := aS3.below k4 aS3.lt
      have aT4 := aT3.below k4 aT3.lt
      have kA := below_box w4 (.cells #[.int .i64 oa.ver, .slice oa.tA oa.tn oa.tcap, .slice oa.gA oa.gn oa.gcap] 25)
      have aA := At.fresh w4 25 #[.int .i64 oa.ver, .slice oa.tA oa.tn oa.tcap, .slice oa.gA oa.gn oa.gcap]
      have bbA := below_in bb4 kA
      have aSA := aS4.below kA aS4.lt
      have aTA := aT4.below kA aT4.lt
      have hoA := hoa.below kA
      have HFA := Lib.hid (hFa HS.out)
      have hz4 := bb4.size
      clear aS3 aT3 bb3 k4 s0 s1 s2 hDa hD1 aS4 aT4 bb4 kA hoa hFa
      unfold Sc.val
      obtain ⟨wA, hWA⟩ : ∃ wA, w4.alloc (.cells #[.int .i64 oa.ver, .slice oa.tA oa.tn oa.tcap, .slice oa.gA oa.gn oa.gcap] 25) = wA := ⟨_, rfl⟩
      rw [hWA] at aA bbA aSA aTA hoA
      obtain ⟨s0, s1, s2⟩ := aSA.tri0
      have hR1 := hRa _ bbA HN.out.2.1 HS.out
      have HWA := Lib.hid hWA
      obtain ⟨s0', s1', s2'⟩ := (show At (w4.alloc (.cells #[.int .i64 oa.ver, .slice oa.tA oa.tn oa.tcap, .slice oa.gA oa.gn oa.gcap] 25)) _ _ _ from (by rw [hWA]; exact aSA)).tri0
      have aTA' : At (w4.alloc (.cells #[.int .i64 oa.ver, .slice oa.tA oa.tn oa.tcap, .slice oa.gA oa.gn oa.gcap] 25)) (w.heap.size + 1) 34 st.cells := by rw [hWA]; exact aTA
      clear hWA hRa
      go_wp2_with (refine wpList_load_st rfl (.tmp 5) rfl (w.heap.size + 1) st rfl aTA' ?_)
      rw [HWA.out]
      refine hR1.mono ?_
      rintro e w5 ⟨⟨ob, eb, rfl, hob, hFb⟩, k5⟩
      have bb5 := below_in bbA k5
      have aA5 := aA.below k5 aA.lt
      have aT5 := aTA.below k5 aTA.lt
      have kB := below_box w5 (.cells #[.int .i64 ob.ver, .slice ob.tA ob.tn ob.tcap, .slice ob.gA ob.gn ob.gcap] 25)
      have aB := At.fresh w5 25 #[.int .i64 ob.ver, .slice ob.tA ob.tn ob.tcap, .slice ob.gA ob.gn ob.gcap]
      have bbB := below_in bb5 kB
      have aAB := aA5.below kB aA5.lt
      have aTB := aT5.below kB aT5.lt
      have hoAB := (hoA.below k5).below kB
      have hoBB := hob.below kB
      obtain ⟨rfl, hsim⟩ := app_like hoAB hoBB HS.out HFA.out (hFb HS.out)
      clear s0 s1 s2 s0' s1' s2' aSA aTA aTA' hR1 aA aA5 aT5 kB hob hoA hFb HFA HS HN HWA k5 bb5 bbA
      unfold Sc.val
      have hSm := fun w' (b : Below (w5.alloc (.cells #[.int .i64 ob.ver, .slice ob.tA ob.tn ob.tcap, .slice ob.gA ob.gn ob.gcap] 25)).heap.size (w5.alloc (.cells #[.int .i64 ob.ver, .slice ob.tA ob.tn ob.tcap, .slice ob.gA ob.gn ob.gcap] 25)) w') => sameS_any oa ob w' (hoAB.below b) (hoBB.below b) hsim
      unfold Sc.val at hSm
      go_wp2_with fail
      obtain ⟨wB, hWB⟩ : ∃ wB, w5.alloc (.cells #[.int .i64 ob.ver, .slice ob.tA ob.tn ob.tcap, .slice ob.gA ob.gn ob.gcap] 25) = wB := ⟨_, rfl⟩
      rw [hWB] at aB bbB aAB aTB hSm ⊢
      clear hWB hoAB hoBB hsim
      have HST : Hid (∀ w', Below wB.heap.size wB w' → w'.rangeAt (w.heap.size + 1) 0 st.cells.toList) := by
        show ∀ _, _
        intro w' b j v hv
        rw [Nat.zero_add, At.cell (aTB.below b aTB.lt)]
        simpa using hv
      have HKD : Hid (∀ w', Below wB.heap.size wB w' → w'.cell? ⟨w.heap.size + 1, 0, none⟩ = some (.int .i64 st.kind)) := by
        show ∀ _, _
        exact fun w' b => (aTB.below b aTB.lt).stmt.c0
      refine wp_region_held_drew (S := fun w' => Below wB.heap.size wB w') (by kernel_rfl) (show Below wB.heap.size wB wB.drew from (Below.refl _ _).drew) (fun hS => ?_)
      refine take_at (i := 0) (v := ?_) rfl rfl (by kernel_rfl) (by kernel_rfl) (by kernel_rfl) (fun _ _ _ h => h) (by rfl) hS ?_ ?_
      rotate_left
      · intro w' hw
        have hw : Below _ _ _ := hw
        go_simp
        try with_reducible rfl
      try simp only [List.setIfInBounds_toArray, List.set_cons_zero, List.set_cons_succ]
      refine take_at (i := 1) (v := ?_) rfl rfl (by kernel_rfl) (by kernel_rfl) (by kernel_rfl) (fun _ _ _ h => h) (by rfl) hS ?_ ?_
      rotate_left
      · intro w' hw
        have hw : Below _ _ _ := hw
        go_simp
        try with_reducible rfl
      try simp only [List.setIfInBounds_toArray, List.set_cons_zero, List.set_cons_succ]
      refine take_at (i := 2) (v := ?_) rfl rfl (by kernel_rfl) (by kernel_rfl) (by kernel_rfl) (fun _ _ _ h => h) (by rfl) hS ?_ ?_
      rotate_left
      · intro w' hw
        have hw : Below _ _ _ := hw
        go_simp
        try with_reducible rfl
      try simp only [List.setIfInBounds_toArray, List.set_cons_zero, List.set_cons_succ]
      refine take_at (i := 3) (v := ?_) rfl rfl (by kernel_rfl) (by kernel_rfl) (by kernel_rfl) (fun _ _ _ h => h) (by rfl) hS ?_ ?_
      rotate_left
      · intro w' hw
        have hw : Below _ _ _ := hw
        go_simp
        try with_reducible rfl
      try simp only [List.setIfInBounds_toArray, List.set_cons_zero, List.set_cons_succ]
      refine take_at (i := 4) (v := ?_) rfl rfl (by kernel_rfl) (by kernel_rfl) (by kernel_rfl) (fun _ _ _ h => h) (by rfl) hS ?_ ?_
      rotate_left
      · intro w' hw
        have hw : Below _ _ _ := hw
        obtain ⟨c0, c1, c2⟩ := (aAB.below hw aAB.lt).tri0
        go_simp
        try with_reducible rfl
      try simp only [List.setIfInBounds_toArray, List.set_cons_zero, List.set_cons_succ]
      refine take_at (i := 5) (v := ?_) rfl rfl (by kernel_rfl) (by kernel_rfl) (by kernel_rfl) (fun _ _ _ h => h) (by rfl) hS ?_ ?_
      rotate_left
      · intro w' hw
        have hw : Below _ _ _ := hw
        obtain ⟨c0, c1, c2⟩ := (aB.below hw aB.lt).tri0
        go_simp
        try with_reducible rfl
      try simp only [List.setIfInBounds_toArray, List.set_cons_zero, List.set_cons_succ]
      refine only_at (i := 6) rfl (by kernel_rfl) (by rfl) (fun K hK => ?_)
      go_simp
      refine (hSm _ hS).mono ?_
      rintro e w6 ⟨rfl, k6⟩
      have hS6 : Below wB.heap.size wB w6 := below_in hS k6
      go_simp
      refine hK.out _ _ hS6 (fun hS => ?_)
      clear hK K hS6
      try simp only [Act.put, List.setIfInBounds_toArray, List.set_cons_zero, List.set_cons_succ]
      refine take_at (i := 7) (v := ?_) rfl rfl (by kernel_rfl) (by kernel_rfl) (by kernel_rfl) (fun _ _ _ h => h) (by rfl) hS ?_ ?_
      rotate_left
      · intro w' hw
        have hw : Below _ _ _ := hw
        go_simp
        try with_reducible rfl
      try simp only [List.setIfInBounds_toArray, List.set_cons_zero, List.set_cons_succ]
      refine take_at (i := 8) (v := ?_) rfl rfl (by kernel_rfl) (by kernel_rfl) (by kernel_rfl) (fun _ _ _ h => h) (by rfl) hS ?_ ?_
      rotate_left
      · intro w' hw
        have hw : Below _ _ _ := hw
        go_simp
        try with_reducible rfl
      try simp only [List.setIfInBounds_toArray, List.set_cons_zero, List.set_cons_succ]
      refine wpAnyH_take (op_at (i := 9) rfl) (by kernel_rfl) (by kernel_rfl) (by kernel_rfl) (fun _ _ _ h => h) (yieldsIf_load_mid (S := fun w' => Below wB.heap.size wB w') (by rfl) 34 (.tmp 5) rfl (w.heap.size + 1) 0 rfl st.cells.toList _ (fun w' hw => HST.out w' hw) Tryz.underlying34 rfl (by kernel_rfl)) hS ?_
      try simp only [Act.put, List.setIfInBounds_toArray, List.set_cons_zero, List.set_cons_succ]
      refine take_at (i := 11) (v := ?_) rfl rfl (by kernel_rfl) (by kernel_rfl) (by kernel_rfl) (fun _ _ _ h => h) (by rfl) hS ?_ ?_
      rotate_left
      · intro w' hw
        have hw : Below _ _ _ := hw
        go_simp
        try with_reducible rfl
      try simp only [List.setIfInBounds_toArray, List.set_cons_zero, List.set_cons_succ]
      refine take_at (i := 12) (v := ?_) rfl rfl (by kernel_rfl) (by kernel_rfl) (by kernel_rfl) (fun _ _ _ h => h) (by rfl) hS ?_ ?_
      rotate_left
      · intro w' hw
        have hw : Below _ _ _ := hw
        have c0 := HKD.out w' hw
        go_simp
        try with_reducible rfl
      try simp only [List.setIfInBounds_toArray, List.set_cons_zero, List.set_cons_succ]
      by_cases h6 : 6 ≤ st.kind
      · have q6 : decide (6 ≤ st.kind) = true := decide_eq_true h6
        refine take_at (i := 13) (v := ?_) rfl rfl (by kernel_rfl) (by kernel_rfl) (by kernel_rfl) (fun _ _ _ h => h) (by rfl) hS ?_ ?_
        rotate_left
        · intro w' hw
          have hw : Below _ _ _ := hw
          go_simp
          try with_reducible rfl
        try simp only [List.setIfInBounds_toArray, List.set_cons_zero, List.set_cons_succ]
        refine only_at (i := 10) rfl (by kernel_rfl) (by rfl) (fun K hK => ?_)
        go_simp
        refine (hIs _).mono ?_
        rintro e w7 ⟨rfl, k7⟩
        have hS7 : Below wB.heap.size wB w7 := below_in hS k7
        go_simp
        refine hK.out _ _ hS7 (fun hS => ?_)
        clear hK K hS7
        try simp only [Act.put, List.setIfInBounds_toArray, List.set_cons_zero, List.set_cons_succ]
        refine take_at (i := 14) (v := ?_) rfl rfl (by kernel_rfl) (by kernel_rfl) (by kernel_rfl) (fun _ _ _ h => h) (by rfl) hS ?_ ?_
        rotate_left
        · intro w' hw
          have hw : Below _ _ _ := hw
          go_simp
          try with_reducible rfl
        try simp only [List.setIfInBounds_toArray, List.set_cons_zero, List.set_cons_succ]
        refine take_at (i := 15) (v := ?_) rfl rfl (by kernel_rfl) (by kernel_rfl) (by kernel_rfl) (fun _ _ _ h => h) (by rfl) hS ?_ ?_
        rotate_left
        · intro w' hw
          have hw : Below _ _ _ := hw
          go_simp
          try with_reducible rfl
        try simp only [List.setIfInBounds_toArray, List.set_cons_zero, List.set_cons_succ]
        refine take_at (i := 16) (v := ?_) rfl rfl (by kernel_rfl) (by kernel_rfl) (by kernel_rfl) (fun _ _ _ h => h) (by rfl) hS ?_ ?_
        rotate_left
        · intro w' hw
          have hw : Below _ _ _ := hw
          have c0 := HKD.out w' hw
          go_simp
          try with_reducible rfl
        try simp only [List.setIfInBounds_toArray, List.set_cons_zero, List.set_cons_succ]
        refine take_at (i := 17) (v := ?_) rfl rfl (by kernel_rfl) (by kernel_rfl) (by kernel_rfl) (fun _ _ _ h => h) (by rfl) hS ?_ ?_
        rotate_left
        · intro w' hw
          have hw : Below _ _ _ := hw
          go_simp
          try with_reducible rfl
        try simp only [List.setIfInBounds_toArray, List.set_cons_zero, List.set_cons_succ]
        refine take_at (i := 18) (v := ?_) rfl rfl (by kernel_rfl) (by kernel_rfl) (by kernel_rfl) (fun _ _ _ h => h) (by rfl) hS ?_ ?_
        rotate_left
        · intro w' hw
          have hw : Below _ _ _ := hw
          go_simp
          try with_reducible rfl
        try simp only [List.setIfInBounds_toArray, List.set_cons_zero, List.set_cons_succ]
        refine take_at (i := 19) (v := ?_) rfl rfl (by kernel_rfl) (by kernel_rfl) (by kernel_rfl) (fun _ _ _ h => h) (by rfl) hS ?_ ?_
        rotate_left
        · intro w' hw
          have hw : Below _ _ _ := hw
          go_simp
          try with_reducible rfl
        try simp only [List.setIfInBounds_toArray, List.set_cons_zero, List.set_cons_succ]
        refine take_at (i := 20) (v := ?_) rfl rfl (by kernel_rfl) (by kernel_rfl) (by kernel_rfl) (fun _ _ _ h => h) (by rfl) hS ?_ ?_
        rotate_left
        · intro w' hw
          have hw : Below _ _ _ := hw
          go_simp
          try with_reducible rfl
        try simp only [List.setIfInBounds_toArray, List.set_cons_zero, List.set_cons_succ]
        refine take_at (i := 21) (v := ?_) rfl rfl (by kernel_rfl) (by kernel_rfl) (by kernel_rfl) (fun _ _ _ h => h) (by rfl) hS ?_ ?_
        rotate_left
        · intro w' hw
          have hw : Below _ _ _ := hw
          go_simp
          try with_reducible rfl
        try simp only [List.setIfInBounds_toArray, List.set_cons_zero, List.set_cons_succ]
        refine wpAnyH_done (by kernel_rfl) ?_ _
        go_wp2_with fail
        go_ret
        exact ⟨by rw [hk.out, q6]; simp, below_in bbB hS⟩
      · have q6 : decide (6 ≤ st.kind) = false := decide_eq_false h6
        refine take_at (i := 13) (v := ?_) rfl rfl (by kernel_rfl) (by kernel_rfl) (by kernel_rfl) (fun _ _ _ h => h) (by rfl) hS ?_ ?_
        rotate_left
        · intro w' hw
          have hw : Below _ _ _ := hw
          go_simp
          try with_reducible rfl
        try simp only [List.setIfInBounds_toArray, List.set_cons_zero, List.set_cons_succ]
        refine only_at (i := 10) rfl (by kernel_rfl) (by rfl) (fun K hK => ?_)
        go_simp
        refine (hIs _).mono ?_
        rintro e w7 ⟨rfl, k7⟩
        have hS7 : Below wB.heap.size wB w7 := below_in hS k7
        go_simp
        refine hK.out _ _ hS7 (fun hS => ?_)
        clear hK K hS7
        try simp only [Act.put, List.setIfInBounds_toArray, List.set_cons_zero, List.set_cons_succ]
        refine take_at (i := 14) (v := ?_) rfl rfl (by kernel_rfl) (by kernel_rfl) (by kernel_rfl) (fun _ _ _ h => h) (by rfl) hS ?_ ?_
        rotate_left
        · intro w' hw
          have hw : Below _ _ _ := hw
          go_simp
          try with_reducible rfl
        try simp only [List.setIfInBounds_toArray, List.set_cons_zero, List.set_cons_succ]
        refine skip_at (i := 15) rfl rfl (by kernel_rfl) (by kernel_rfl) (by kernel_rfl) (fun _ _ _ h => h) (by rfl) hS ?_
        try simp only [List.setIfInBounds_toArray, List.set_cons_zero, List.set_cons_succ]
        refine skip_at (i := 16) rfl rfl (by kernel_rfl) (by kernel_rfl) (by kernel_rfl) (fun _ _ _ h => h) (by rfl) hS ?_
        try simp only [List.setIfInBounds_toArray, List.set_cons_zero, List.set_cons_succ]
        refine skip_at (i := 17) rfl rfl (by kernel_rfl) (by kernel_rfl) (by kernel_rfl) (fun _ _ _ h => h) (by rfl) hS ?_
        try simp only [List.setIfInBounds_toArray, List.set_cons_zero, List.set_cons_succ]
        refine take_at (i := 18) (v := ?_) rfl rfl (by kernel_rfl) (by kernel_rfl) (by kernel_rfl) (fun _ _ _ h => h) (by rfl) hS ?_ ?_
        rotate_left
        · intro w' hw
          have hw : Below _ _ _ := hw
          go_simp
          try with_reducible rfl
        try simp only [List.setIfInBounds_toArray, List.set_cons_zero, List.set_cons_succ]
        refine take_at (i := 19) (v := ?_) rfl rfl (by kernel_rfl) (by kernel_rfl) (by kernel_rfl) (fun _ _ _ h => h) (by rfl) hS ?_ ?_
        rotate_left
        · intro w' hw
          have hw : Below _ _ _ := hw
          go_simp
          try with_reducible rfl
        try simp only [List.setIfInBounds_toArray, List.set_cons_zero, List.set_cons_succ]
        refine take_at (i := 20) (v := ?_) rfl rfl (by kernel_rfl) (by kernel_rfl) (by kernel_rfl) (fun _ _ _ h => h) (by rfl) hS ?_ ?_
        rotate_left
        · intro w' hw
          have hw : Below _ _ _ := hw
          go_simp
          try with_reducible rfl
        try simp only [List.setIfInBounds_toArray, List.set_cons_zero, List.set_cons_succ]
        refine take_at (i := 21) (v := ?_) rfl rfl (by kernel_rfl) (by kernel_rfl) (by kernel_rfl) (fun _ _ _ h => h) (by rfl) hS ?_ ?_
        rotate_left
        · intro w' hw
          have hw : Below _ _ _ := hw
          go_simp
          try with_reducible rfl
        try simp only [List.setIfInBounds_toArray, List.set_cons_zero, List.set_cons_succ]
        refine wpAnyH_done (by kernel_rfl) ?_ _
        go_wp2_with fail
        go_ret
        exact ⟨by rw [hk.out, q6]; simp, below_in bbB hS⟩
end Go.Proofs.YtnhalfdddcjicaaGreat

namespace Go.Proofs.YtnhalfdddcjicaaGreat.bulks

theorem bound {H : Type} {l : List (DataW H)} (hk : Rows.uptoSmall H l = true) : Rows.uptoBulkAll l ≤ 1048576 := of_decide_eq_true hk

theorem letters {H : Type} : ∀ ss : List (List UInt8), ss.flatten.length + ss.length ≤ Rows.uptoBulkAll (ss.map fun s => DataW.lit (H := H) (.string s))
  | [] => by simp
  | s :: r => by
    have := letters (H := H) r
    simp only [List.map_cons, Rows.uptoBulkAll, Rows.uptoBulk, List.flatten_cons, List.length_append, List.length_cons]
    omega

theorem strs_le {H : Type} {d : DataW H} {ss : List (List UInt8)} (hB : Rows.uptoBulk d ≤ 1048576) (u : d = .nil ∧ ss = [] ∨ ∃ sp, d = .slice (ss.map fun s => .lit (.string s)) sp) : ss.flatten.length ≤ 1048576 := by
  rcases u with ⟨_, rfl⟩ | ⟨sp, rfl⟩
  · simp
  · have h1 := letters (H := H) ss
    simp only [Rows.uptoBulk] at hB
    omega
theorem str_le {H : Type} {l : List UInt8} (hB : Rows.uptoBulk (DataW.lit (H := H) (.string l)) ≤ 1048576) : l.length ≤ 1048576 := by
  simp only [Rows.uptoBulk] at hB
  omega
end Go.Proofs.YtnhalfdddcjicaaGreat.bulks
