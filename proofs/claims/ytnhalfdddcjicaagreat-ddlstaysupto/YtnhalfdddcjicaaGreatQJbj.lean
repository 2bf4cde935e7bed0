/- The walk of the law DdlStays. -/
/- What the bound of the second form gives: how many letters a slice of strings holds. -/
import Derived.Test.YtnhalfdddcjicaaGreatQJbi
import Derived.Deep.RegionHeld3
import Derived.Test.YtnhalfdddcjicaaGreatRows
namespace Go.Proofs.YtnhalfdddcjicaaGreat
open Go.RowKit

theorem wp_append_gr {o : Oper} {a : Act} {K : Act → World → Prop} {Q : Exit → Act → World → Prop} {w : World} {base : Nat} {v : Value} {n : Nat} {xs : List Value} (sl x : Operand)
    (hop : o.op = .call { callee := .builtin .append, args := #[sl, x], argTypes := #[23, 23] }) (h : w.ownsRow base 50 3 v n xs) (A : Option Addr) (m c : Nat) (gs : List Gr) (hr : RowG w A m gs)
    (hsl : a.eval sl = v) (hx : a.eval x = .slice A m c) (hn : n + m ≤ 1000000) (hb : base ≤ w.heap.size)
    (hQ : ∀ v' w', w'.ownsRow base 50 3 v' (n + m) (xs ++ gs.flatMap Gr.cs) → w.grownBy w' v.ownBlock → K (a.put o.dst v') w') : o.wp Tryz.prog a w K Q := by
  obtain ⟨v', w', hrun, h2, h3⟩ := run_append_rowG w base o.type v n xs h A m c gs hr hn hb
  unfold Oper.wp execOp
  simp only [hop, resolve, invoke, builtin, Sem.run_bind, Sem.run_pure, Result.andThen_ok, List.map_toArray, List.map_cons, List.map_nil, hsl, hx, hrun]
  exact hQ v' w' h2 h3
theorem small_bytes {w : World} {o : Sc} (h : InS w o) (hl : (encSd (treeS o)).length ≤ 8192) : o.tn ≤ 16384 ∧ o.gn ≤ 16384 := by
  have h1 := wt_encS h
  have h2 := tn_wt o
  exact ⟨by omega, by omega⟩

set_option maxRecDepth 100000 in
set_option maxHeartbeats 12800000 in
theorem ddlStays_main (s : Sc) (role : Int) (st : St) (w : World) (hs : InS w s) (hw : wtS s ≤ 1048576) (hcap : s.gn ≤ s.gcap) (htcap : s.tn ≤ s.tcap) (hrole : I64 role) (hst : InSt w st) (hsum : wtS s + wtT st.def_ + st.table.length ≤ 1048576) :
    Calls Tryz.prog 5 #[s.val, .int .i64 role, st.val] w fun e w' => e = .returned (.bool true) ∧ Below w.heap.size w w' := by
  have b1 := below_box w (.cells #[.int .i64 s.ver, .slice s.tA s.tn s.tcap, .slice s.gA s.gn s.gcap] 25)
  have aS := At.fresh w 25 #[.int .i64 s.ver, .slice s.tA s.tn s.tcap, .slice s.gA s.gn s.gcap]
  have b2 := below_box (w.alloc (.cells #[.int .i64 s.ver, .slice s.tA s.tn s.tcap, .slice s.gA s.gn s.gcap] 25)) (.cells st.cells 34)
  have aT := At.fresh (w.alloc (.cells #[.int .i64 s.ver, .slice s.tA s.tn s.tcap, .slice s.gA s.gn s.gcap] 25)) 34 st.cells
  have aS2 := aS.below b2 aS.lt
  have bb := below_in b1 b2
  obtain ⟨W, hW⟩ : ∃ W, (w.alloc (.cells #[.int .i64 s.ver, .slice s.tA s.tn s.tcap, .slice s.gA s.gn s.gcap] 25)).alloc (.cells st.cells 34) = W := ⟨_, rfl⟩
  rw [hW] at aT aS2 bb
  simp only [World.size_alloc] at aT
  have HW := Lib.hid hW
  clear hW b1 b2 aS
  have hw3 : 3 ≤ wtS s := by unfold wtS; omega
  have hG := fun w1 (b : Below w.heap.size w w1) => dgreat_any s st w1 (hs.below b) (hst.below b) hw
  have hR := fun w1 (b : Below w.heap.size w w1) => rwhole_any s w1 (hs.below b) (by omega) hcap htcap
  have hBy := fun w1 (b : Below w.heap.size w w1) => rbytesS_any s w1 (hs.below b) (by have := encSd_wt hs (by omega); omega)
  have hDa := fun w1 (b : Below w.heap.size w w1) (hg : s.gn ≤ 1000) (hn : s.tn ≤ 1000) => dapplyC_any s role st w1 (hs.below b) (hst.below b) hrole hw (by omega) (by omega) hg hn
  have HPr : Hid (∀ o w', InS w' o → WholeS s → AppF s role st 0 o → (∃ pos, Stay s o st.kind (nameOf st) pos) ∧ o.tn ≤ 16384 ∧ o.gn ≤ 16384) := by
    show ∀ _, _
    intro o w' ho h1 h2
    obtain ⟨h3, h4⟩ := app_all h2
    exact ⟨stays hs h1 ho h3, small_bytes ho h4⟩
  have HS := Lib.hid hs
  have HV : Hid (st.val = .agg st.cells) := rfl
  clear hs hst hw hw3 hsum hcap htcap hrole
  unfold Sc.val at hG hR hBy hDa ⊢
  rw [HV.out] at hG hDa ⊢
  go_enter Tryz.func5, Tryz.ntmps5
  go_wp2_with fail
  rw [HW.out]
  clear HW
  refine (dalive_any _).mono ?_
  rintro e w1 ⟨rfl, k1⟩
  have bb1 := below_in bb k1
  have aS1 := aS2.below k1 aS2.lt
  have aT1 := aT.below k1 aT.lt
  clear aS2 aT bb k1
  obtain ⟨s0, s1, s2⟩ := aS1.tri0
  go_wp2_with (refine wpList_load_st rfl (.tmp 5) rfl (w.heap.size + 1) st rfl aT1 ?_)
  refine (hG _ bb1).mono ?_
  rintro e w2 ⟨⟨B, rfl, hB⟩, k2⟩
  have bb2 := below_in bb1 k2
  have aS2 := aS1.below k2 aS1.lt
  have aT2 := aT1.below k2 aT1.lt
  clear aS1 aT1 bb1 k2 s0 s1 s2 hG
  obtain ⟨s0, s1, s2⟩ := aS2.tri0
  cases B with
  | true =>
    go_wp2_with fail
    go_ret
    exact ⟨rfl, bb2⟩
  | false =>
    have hn := hB rfl
    have HN : Hid (s.tn ≤ 1000 ∧ s.gn ≤ 1000) := show _ ∧ _ from ⟨by omega, by omega⟩
    clear hB hn
    go_wp2_with fail
    refine (hR _ bb2).mono ?_
    rintro e w3 ⟨⟨B1, rfl, hB1⟩, k3⟩
    have bb3 := below_in bb2 k3
    have aS3 := aS2.below k3 aS2.lt
    have aT3 := aT2.below k3 aT2.lt
    clear aS2 aT2 bb2 k3 s0 s1 s2 hR
    obtain ⟨s0, s1, s2⟩ := aS3.tri0
    have HB1 := Lib.hid hB1
    clear hB1
    cases B1 with
    | false =>
      go_wp2_with fail
      go_ret
      exact ⟨rfl, bb3⟩
    | true =>
      have HWs : Hid (WholeS s) := Lib.hid (HB1.out.1 rfl)
      clear HB1
      have hB3 := hBy _ bb3
      obtain ⟨E, hE⟩ : ∃ E, encSd (treeS s) = E := ⟨_, rfl⟩
      rw [hE] at hB3 hBy
      clear hE
      go_wp2_with fail
      refine hB3.mono ?_
      rintro e w4 ⟨rfl, k4⟩
      have bb4 := below_in bb3 k4
      have aS4 := aS3.below k4 aS3.lt
      have aT4 := aT3.below k4 aT3.lt
      clear aS3 aT3 bb3 k4 s0 s1 s2 hB3
      obtain ⟨s0, s1, s2⟩ := aS4.tri0
      have hDb := hDa _ bb4 HN.out.2 HN.out.1
      clear hDa
      go_wp2_with (refine wpList_load_st rfl (.tmp 5) rfl (w.heap.size + 1) st rfl aT4 ?_)
      refine hDb.mono ?_
      rintro e w5 ⟨⟨o, er, rfl, ho, -, hF⟩, k5⟩
      have bb5 := below_in bb4 k5
      have aS5 := aS4.below k5 aS4.lt
      have aT5 := aT4.below k5 aT4.lt
      have k6 := below_box w5 (.cells #[.int .i64 o.ver, .slice o.tA o.tn o.tcap, .slice o.gA o.gn o.gcap] 25)
      have aO := At.fresh w5 25 #[.int .i64 o.ver, .slice o.tA o.tn o.tcap, .slice o.gA o.gn o.gcap]
      have bb6 := below_in bb5 k6
      have aS6 := aS5.below k6 aS5.lt
      have aT6 := aT5.below k6 aT5.lt
      have ho6 := ho.below k6
      have hB6 := hBy _ bb6
      clear s0 s1 s2 hDb aT4 aS4 aT5 aS5 k6 k5 ho hBy
      obtain ⟨s0, s1, s2⟩ := aS6.tri0
      unfold Sc.val
      go_wp2_with fail
      refine hB6.mono ?_
      rintro e w7 ⟨rfl, k7⟩
      have bb7 := below_in bb6 k7
      have aS7 := aS6.below k7 aS6.lt
      have aT7 := aT6.below k7 aT6.lt
      have aO7 := aO.below k7 aO.lt
      have ho7 := ho6.below k7
      clear s0 s1 s2 hB6 aS6 aT6 aO ho6 k7
      obtain ⟨s0, s1, s2⟩ := aS7.tri0
      obtain ⟨o0, o1, o2⟩ := aO7.tri0
      have d0 := aT7.stmt.c0
      have d1 := aT7.stmt.c1
      have d13 := aT7.stmt.c13
      by_cases he : er = 0
      · subst he
        obtain ⟨⟨pos, hSt⟩, hon, hog⟩ := HPr.out o _ ho7 HWs.out (hF HWs.out.2.2.1)
        have hsn := HN.out
        clear HPr hF
        obtain ⟨X, hX⟩ : ∃ X, nameOf st = X := ⟨_, rfl⟩
        rw [hX] at hSt
        have HSt := Lib.hid hSt
        have hp0 := hSt.start
        clear hSt
        by_cases c6 : st.kind = 6
        · have hXn : st.def_.name = X := by rw [← hX]; unfold nameOf; rw [if_pos c6]
          rw [hXn] at d13
          have hk6 : (st.kind == 6) = true := by simpa using c6
          clear hX hXn c6
          go_wp2_with fail
          go_loopw [11, 55] (fun nv iv wr => ∃ (k : Nat), k ≤ s.tn ∧ iv = .int .i64 k ∧ nv = .int .i64 (pos k) ∧ At wr w.heap.size 25 #[.int .i64 s.ver, .slice s.tA s.tn s.tcap, .slice s.gA s.gn s.gcap] ∧ At wr (w.heap.size + 1) 34 st.cells ∧ At wr w5.heap.size 25 #[.int .i64 o.ver, .slice o.tA o.tn o.tcap, .slice o.gA o.gn o.gcap] ∧ Below w.heap.size w wr ∧ Below w7.heap.size w7 wr) (fun _ iv _ => s.tn - (intOf iv).toNat)
          case atStart => exact ⟨0, by omega, rfl, by rw [hp0]; rfl, aS7, aT7, aO7, bb7, Below.refl _ _⟩
          case round =>
            obtain ⟨k, hk, rfl, rfl, aSr, aTr, aOr, br, b7r⟩ := hrel
            clear s0 s1 s2 o0 o1 o2 d0 d1 d13 hp0 aS7 aT7 aO7 bb7
            obtain ⟨s0, s1, s2⟩ := aSr.tri0
            by_cases hlt : k < s.tn
            · obtain ⟨bb, off, htA, hbl, hcell⟩ := HS.out.tabs (by omega)
              obtain ⟨c0, c1, c2, c3⟩ := (hcell k hlt).1.keep fun i => br.cell (p := ⟨bb, i, none⟩) hbl
              have hin := (hcell k hlt).2.below br
              have hsk := HSt.out.skip k hlt
              have hkp := HSt.out.keep k hlt
              have hki : (k : Int) < (s.tn : Int) := by omega
              rw [htA] at aSr s1 ⊢
              have HTA := Lib.hid htA
              clear hcell htA
              obtain ⟨t, ht⟩ : ∃ t, s.tab k = t := ⟨_, rfl⟩
              rw [ht] at c0 c1 c2 c3 hin hsk hkp
              clear ht
              have kT := below_box wr (.cells #[.string ⟨t.name.toArray⟩, .int .i64 t.owner, .slice t.cA t.cn t.ccap, .slice t.eA t.en t.ecap] 32)
              have aX := At.fresh wr 32 #[.string ⟨t.name.toArray⟩, .int .i64 t.owner, .slice t.cA t.cn t.ccap, .slice t.eA t.en t.ecap]
              have aST := aSr.below kT aSr.lt
              have aTT := aTr.below kT aTr.lt
              have aOT := aOr.below kT aOr.lt
              have bT := below_in br kT
              have b7T := below_in b7r kT
              have hinT := hin.below kT
              have d0 := aTT.stmt.c0
              obtain ⟨t0, t1, t2, t3, -⟩ := aX.four
              obtain ⟨p, hp⟩ : ∃ p, pos k = p := ⟨_, rfl⟩
              rw [hp] at hsk hkp ⊢
              clear hp kT
              by_cases hskip : t.name = X ∧ st.kind = 7
              · have hpk := hsk hskip.1 hskip.2
                have q1 : (t.name == X) = true := by simp [hskip.1]
                have q7 : (st.kind == 7) = true := by simp [hskip.2]
                clear hskip hsk hkp
                go_wp2_with fail
                exact ⟨⟨k + 1, by omega, by go_num, by rw [hpk], by first | exact aST | (rw [HTA.out]; exact aST), aTT, aOT, bT, b7T⟩, by simp [intOf]; omega⟩
              · obtain ⟨hp1, hp2, hp3⟩ := hkp hskip
                have hq : ((t.name == X) = true ∧ (st.kind == 7) = false) ∨ (t.name == X) = false := by
                  by_cases e1 : t.name = X
                  · exact .inl ⟨by simp [e1], by simp; exact fun e => hskip ⟨e1, e⟩⟩
                  · exact .inr (by simp [e1])
                clear hskip hsk hkp
                obtain ⟨bo, oo, hoA, hol, hoc⟩ := ho7.tabs (by omega)
                have hop := hoc p hp2
                have hSm := fun w' (b : Below (wr.alloc (.cells #[.string ⟨t.name.toArray⟩, .int .i64 t.owner, .slice t.cA t.cn t.ccap, .slice t.eA t.en t.ecap] 32)).heap.size (wr.alloc (.cells #[.string ⟨t.name.toArray⟩, .int .i64 t.owner, .slice t.cA t.cn t.ccap, .slice t.eA t.en t.ecap] 32)) w') => sameT_any (o.tab p) t w' ((hop.2.below b7T).below b) (hinT.below b) (simT_tree (hop.2.below b7T) hinT hp3)
                have hpc := fun w' (b : Below (wr.alloc (.cells #[.string ⟨t.name.toArray⟩, .int .i64 t.owner, .slice t.cA t.cn t.ccap, .slice t.eA t.en t.ecap] 32)).heap.size (wr.alloc (.cells #[.string ⟨t.name.toArray⟩, .int .i64 t.owner, .slice t.cA t.cn t.ccap, .slice t.eA t.en t.ecap] 32)) w') => hop.1.keep fun i => (below_in b7T b).cell (p := ⟨bo, i, none⟩) hol
                have hpi : (p : Int) < (o.tn : Int) := by omega
                have hpn : decide ((o.tn : Int) ≤ (p : Int)) = false := by simp; omega
                have hpm : decide (o.tn ≤ p) = false := by simp; omega
                have hpo : (0 : Int) ≤ (p : Int) := by omega
                obtain ⟨u, hu⟩ : ∃ u, o.tab p = u := ⟨_, rfl⟩
                rw [hu] at hSm hpc
                unfold Tb.val at hSm
                rw [hoA] at aOT
                have HOA := Lib.hid hoA
                obtain ⟨wT, hwT⟩ : ∃ wT, wr.alloc (.cells #[.string ⟨t.name.toArray⟩, .int .i64 t.owner, .slice t.cA t.cn t.ccap, .slice t.eA t.en t.ecap] 32) = wT := ⟨_, rfl⟩
                rw [hwT] at aX aST aTT aOT bT b7T hSm hpc
                have HWT := Lib.hid hwT
                have HPC : Hid (∀ w', Below wT.heap.size wT w' → CellsT w' bo (oo + p * 4) u) := by show ∀ _, _; exact hpc
                have HOC : Hid (∀ w', Below wT.heap.size wT w' → w'.cell? ⟨w5.heap.size, 0, none⟩ = some (.int .i64 o.ver) ∧ w'.cell? ⟨w5.heap.size, 1, none⟩ = some (.slice (some ⟨bo, oo, none⟩) o.tn o.tcap) ∧ w'.cell? ⟨w5.heap.size, 2, none⟩ = some (.slice o.gA o.gn o.gcap)) := by show ∀ _, _; exact fun w' b => (aOT.below b aOT.lt).tri0
                have HTC : Hid (∀ w', Below wT.heap.size wT w' → w'.cell? ⟨wr.heap.size, 0, none⟩ = some (.string ⟨t.name.toArray⟩) ∧ w'.cell? ⟨wr.heap.size, 1, none⟩ = some (.int .i64 t.owner) ∧ w'.cell? ⟨wr.heap.size, 2, none⟩ = some (.slice t.cA t.cn t.ccap) ∧ w'.cell? ⟨wr.heap.size, 3, none⟩ = some (.slice t.eA t.en t.ecap)) := by
                  show ∀ _, _
                  intro w' b
                  obtain ⟨a0, a1, a2, a3, -⟩ := (aX.below b aX.lt).four
                  exact ⟨a0, a1, a2, a3⟩
                clear hu hoA hwT hpc hop hoc hin hinT hp3
                rcases hq with ⟨q1, q7⟩ | q1
                all_goals
                  go_wp2_with fail
                  rw [HWT.out]
                  refine wp_region_held_drew (S := fun w' => Below wT.heap.size wT w') (by kernel_rfl) (show Below wT.heap.size wT wT.drew from (Below.refl _ _).drew) (fun hS => ?_)
                  refine take_at (i := 0) (v := ?_) rfl rfl (by kernel_rfl) (by kernel_rfl) (by kernel_rfl) (fun _ _ _ h => h) (by rfl) hS ?_ ?_
                  rotate_left
                  · intro w' hw
                    have hw : Below _ _ _ := hw
                    go_simp
                    try with_reducible rfl
                  try simp only [List.setIfInBounds_toArray, List.set_cons_zero, List.set_cons_succ]
                  refine take_at (i := 1) (v := ?_) rfl rfl (by kernel_rfl) (by kernel_rfl) (by kernel_rfl) (fun _ _ _ h => h) (by rfl) hS ?_ ?_
                  rotate_left
                  · intro w' hw
                    have hw : Below _ _ _ := hw
                    go_simp
                    try with_reducible rfl
                  try simp only [List.setIfInBounds_toArray, List.set_cons_zero, List.set_cons_succ]
                  refine take_at (i := 2) (v := ?_) rfl rfl (by kernel_rfl) (by kernel_rfl) (by kernel_rfl) (fun _ _ _ h => h) (by rfl) hS ?_ ?_
                  rotate_left
                  · intro w' hw
                    have hw : Below _ _ _ := hw
                    obtain ⟨o0, o1, o2⟩ := HOC.out w' hw
                    go_simp
                    try with_reducible rfl
                  try simp only [List.setIfInBounds_toArray, List.set_cons_zero, List.set_cons_succ]
                  refine take_at (i := 3) (v := ?_) rfl rfl (by kernel_rfl) (by kernel_rfl) (by kernel_rfl) (fun _ _ _ h => h) (by rfl) hS ?_ ?_
                  rotate_left
                  · intro w' hw
                    have hw : Below _ _ _ := hw
                    go_simp
                    try with_reducible rfl
                  try simp only [List.setIfInBounds_toArray, List.set_cons_zero, List.set_cons_succ]
                  refine take_at (i := 4) (v := ?_) rfl rfl (by kernel_rfl) (by kernel_rfl) (by kernel_rfl) (fun _ _ _ h => h) (by rfl) hS ?_ ?_
                  rotate_left
                  · intro w' hw
                    have hw : Below _ _ _ := hw
                    go_simp
                    try with_reducible rfl
                  try simp only [List.setIfInBounds_toArray, List.set_cons_zero, List.set_cons_succ]
                  refine take_at (i := 5) (v := ?_) rfl rfl (by kernel_rfl) (by kernel_rfl) (by kernel_rfl) (fun _ _ _ h => h) (by rfl) hS ?_ ?_
                  rotate_left
                  · intro w' hw
                    have hw : Below _ _ _ := hw
                    go_simp
                    try with_reducible rfl
                  try simp only [List.setIfInBounds_toArray, List.set_cons_zero, List.set_cons_succ]
                  refine take_at (i := 6) (v := ?_) rfl rfl (by kernel_rfl) (by kernel_rfl) (by kernel_rfl) (fun _ _ _ h => h) (by rfl) hS ?_ ?_
                  rotate_left
                  · intro w' hw
                    have hw : Below _ _ _ := hw
                    go_simp
                    try with_reducible rfl
                  try simp only [List.setIfInBounds_toArray, List.set_cons_zero, List.set_cons_succ]
                  refine take_at (i := 7) (v := ?_) rfl rfl (by kernel_rfl) (by kernel_rfl) (by kernel_rfl) (fun _ _ _ h => h) (by rfl) hS ?_ ?_
                  rotate_left
                  · intro w' hw
                    have hw : Below _ _ _ := hw
                    obtain ⟨o0, o1, o2⟩ := HOC.out w' hw
                    go_simp
                    try with_reducible rfl
                  try simp only [List.setIfInBounds_toArray, List.set_cons_zero, List.set_cons_succ]
                  refine take_at (i := 8) (v := ?_) rfl rfl (by kernel_rfl) (by kernel_rfl) (by kernel_rfl) (fun _ _ _ h => h) (by rfl) hS ?_ ?_
                  rotate_left
                  · intro w' hw
                    have hw : Below _ _ _ := hw
                    go_simp
                    try with_reducible rfl
                  try simp only [List.setIfInBounds_toArray, List.set_cons_zero, List.set_cons_succ]
                  refine take_at (i := 9) (v := ?_) rfl rfl (by kernel_rfl) (by kernel_rfl) (by kernel_rfl) (fun _ _ _ h => h) (by rfl) hS ?_ ?_
                  rotate_left
                  · intro w' hw
                    have hw : Below _ _ _ := hw
                    go_simp
                    try with_reducible rfl
                  try simp only [List.setIfInBounds_toArray, List.set_cons_zero, List.set_cons_succ]
                  refine take_at (i := 10) (v := ?_) rfl rfl (by kernel_rfl) (by kernel_rfl) (by kernel_rfl) (fun _ _ _ h => h) (by rfl) hS ?_ ?_
                  rotate_left
                  · intro w' hw
                    have hw : Below _ _ _ := hw
                    obtain ⟨e0, e1, e2, e3⟩ := HPC.out w' hw
                    go_simp
                    try with_reducible rfl
                  try simp only [List.setIfInBounds_toArray, List.set_cons_zero, List.set_cons_succ]
                  refine take_at (i := 11) (v := ?_) rfl rfl (by kernel_rfl) (by kernel_rfl) (by kernel_rfl) (fun _ _ _ h => h) (by rfl) hS ?_ ?_
                  rotate_left
                  · intro w' hw
                    have hw : Below _ _ _ := hw
                    obtain ⟨t0, t1, t2, t3⟩ := HTC.out w' hw
                    go_simp
                    try with_reducible rfl
                  try simp only [List.setIfInBounds_toArray, List.set_cons_zero, List.set_cons_succ]
                  refine only_at (i := 12) rfl (by kernel_rfl) (by rfl) (fun K hK => ?_)
                  go_simp
                  refine (hSm _ hS).mono ?_
                  rintro e w8 ⟨rfl, k8⟩
                  have hS8 : Below wT.heap.size wT w8 := below_in hS k8
                  go_simp
                  refine hK.out _ _ hS8 (fun hS => ?_)
                  clear hK K hS8
                  try simp only [Act.put, List.setIfInBounds_toArray, List.set_cons_zero, List.set_cons_succ]
                  refine take_at (i := 13) (v := ?_) rfl rfl (by kernel_rfl) (by kernel_rfl) (by kernel_rfl) (fun _ _ _ h => h) (by rfl) hS ?_ ?_
                  rotate_left
                  · intro w' hw
                    have hw : Below _ _ _ := hw
                    go_simp
                    try with_reducible rfl
                  try simp only [List.setIfInBounds_toArray, List.set_cons_zero, List.set_cons_succ]
                  refine take_at (i := 14) (v := ?_) rfl rfl (by kernel_rfl) (by kernel_rfl) (by kernel_rfl) (fun _ _ _ h => h) (by rfl) hS ?_ ?_
                  rotate_left
                  · intro w' hw
                    have hw : Below _ _ _ := hw
                    go_simp
                    try with_reducible rfl
                  try simp only [List.setIfInBounds_toArray, List.set_cons_zero, List.set_cons_succ]
                  refine wpAnyH_done (by kernel_rfl) ?_ _
                  go_wp2_with fail
                  exact ⟨⟨k + 1, by omega, by go_num, by rw [hp1]; go_num, by first | exact aST.below hS aST.lt | (rw [HTA.out]; exact aST.below hS aST.lt), aTT.below hS aTT.lt, by first | exact aOT.below hS aOT.lt | (rw [HOA.out]; exact aOT.below hS aOT.lt), below_in bT hS, below_in b7T hS⟩, by simp [intOf]; omega⟩
            · obtain rfl : k = s.tn := by omega
              obtain ⟨o0, o1, o2⟩ := aOr.tri0
              have hps := HSt.out.stop
              obtain ⟨p, hp⟩ : ∃ p, pos s.tn = p := ⟨_, rfl⟩
              rw [hp] at hps ⊢
              clear hp
              go_wp2_with fail
              have hwr := Below.size br
              refine wp_region_held_drew (S := fun w' => Below wr.heap.size wr w') (by kernel_rfl) (show Below wr.heap.size wr wr.drew from (Below.refl _ _).drew) (fun hS => ?_)
              refine take_at (i := 1) (v := ?_) rfl rfl (by kernel_rfl) (by kernel_rfl) (by kernel_rfl) (fun _ _ _ h => h) (by rfl) hS ?_ ?_
              rotate_left
              · intro w' hw
                have hw : Below _ _ _ := hw
                go_simp
                try with_reducible rfl
              try simp only [List.setIfInBounds_toArray, List.set_cons_zero, List.set_cons_succ]
              refine take_at (i := 2) (v := ?_) rfl rfl (by kernel_rfl) (by kernel_rfl) (by kernel_rfl) (fun _ _ _ h => h) (by rfl) hS ?_ ?_
              rotate_left
              · intro w' hw
                have hw : Below _ _ _ := hw
                obtain ⟨q0, q1, q2⟩ := (aSr.below hw aSr.lt).tri0
                go_simp
                try with_reducible rfl
              try simp only [List.setIfInBounds_toArray, List.set_cons_zero, List.set_cons_succ]
              refine take_at (i := 4) (v := ?_) rfl rfl (by kernel_rfl) (by kernel_rfl) (by kernel_rfl) (fun _ _ _ h => h) (by rfl) hS ?_ ?_
              rotate_left
              · intro w' hw
                have hw : Below _ _ _ := hw
                go_simp
                try with_reducible rfl
              try simp only [List.setIfInBounds_toArray, List.set_cons_zero, List.set_cons_succ]
              refine take_at (i := 5) (v := ?_) rfl rfl (by kernel_rfl) (by kernel_rfl) (by kernel_rfl) (fun _ _ _ h => h) (by rfl) hS ?_ ?_
              rotate_left
              · intro w' hw
                have hw : Below _ _ _ := hw
                obtain ⟨q0, q1, q2⟩ := (aOr.below hw aOr.lt).tri0
                go_simp
                try with_reducible rfl
              try simp only [List.setIfInBounds_toArray, List.set_cons_zero, List.set_cons_succ]
              refine take_at (i := 8) (v := ?_) rfl rfl (by kernel_rfl) (by kernel_rfl) (by kernel_rfl) (fun _ _ _ h => h) (by rfl) hS ?_ ?_
              rotate_left
              · intro w' hw
                have hw : Below _ _ _ := hw
                go_simp
                try with_reducible rfl
              try simp only [List.setIfInBounds_toArray, List.set_cons_zero, List.set_cons_succ]
              refine only_at (i := 0) rfl (by kernel_rfl) (by rfl) (fun K hK => ?_)
              go_simp
              have hS1 : Below wr.heap.size wr (wr.alloc (.cells #[] 50)).drew := ((Below.refl wr.heap.size wr).alloc (Nat.le_refl _) _).drew
              have ho0 := (World.ownsRow_lit (base := wr.heap.size) (e := 50) (size := 3) wr #[] 0 (Nat.le_refl _) (by unfold maxLen; decide) (by simp)).drew
              obtain ⟨wZ, hwZ⟩ : ∃ wZ, (wr.alloc (.cells #[] 50)).drew = wZ := ⟨_, rfl⟩
              rw [hwZ] at hS1 ho0 ⊢
              refine hK.out _ _ hS1 (fun hS => ?_)
              clear hK K hS1 hwZ
              try simp only [Act.put, List.setIfInBounds_toArray, List.set_cons_zero, List.set_cons_succ]
              refine only_at (i := 3) rfl (by kernel_rfl) (by rfl) (fun K hK => ?_)
              refine wp_append_gr (.tmp 86) (.tmp 88) rfl ho0 s.gA s.gn s.gcap s.grants (HS.out.grants.below (below_in br hS)) rfl rfl (by omega) (Below.size hS) ?_
              intro v1 wA ho1 hg1
              have hSA : Below wr.heap.size wr wA := Below.grown hS hg1 (Below.size hS) (fun kk e => (World.ownsRow.lt ho0 kk e).1)
              go_simp
              refine hK.out _ _ hSA (fun hS => ?_)
              clear hK K hSA hg1 ho0
              try simp only [Act.put, List.setIfInBounds_toArray, List.set_cons_zero, List.set_cons_succ]
              refine only_at (i := 6) rfl (by kernel_rfl) (by rfl) (fun K hK => ?_)
              refine wp_append_gr (.tmp 89) (.tmp 91) rfl ho1 o.gA o.gn o.gcap o.grants (ho7.grants.below (below_in b7r hS)) rfl rfl (by omega) (Below.size hS) ?_
              intro v2 wB ho2 hg2
              have hSB : Below wr.heap.size wr wB := Below.grown hS hg2 (Below.size hS) (fun kk e => (World.ownsRow.lt ho1 kk e).1)
              have ho3 : wB.ownsRow wr.heap.size 50 3 v2 (s.grants ++ o.grants).length ((s.grants ++ o.grants).flatMap Gr.cs) := by
                rw [List.length_append, List.flatMap_append, HS.out.grants.1, ho7.grants.1]
                simpa using ho2
              obtain ⟨A2, c2, rfl, hrow, -⟩ := own_rowG ho3 (fun g hg => by
                rcases List.mem_append.1 hg with h | h
                · exact HS.out.grants.2.1 g h
                · exact ho7.grants.2.1 g h)
              have hgl : (s.grants ++ o.grants).length ≤ 20000 := by
                rw [List.length_append, HS.out.grants.1, ho7.grants.1]; omega
              obtain ⟨G, hG⟩ : ∃ G, s.grants ++ o.grants = G := ⟨_, rfl⟩
              rw [hG] at hrow hgl ⊢
              obtain ⟨m, hm⟩ : ∃ m, G.length = m := ⟨_, rfl⟩
              rw [hm] at hrow hgl ⊢
              go_simp
              refine hK.out _ _ hSB (fun hS => ?_)
              clear hK K hSB hg2 ho1 ho2 ho3 hG
              try simp only [Act.put, List.setIfInBounds_toArray, List.set_cons_zero, List.set_cons_succ]
              refine take_at (i := 7) (v := ?_) rfl rfl (by kernel_rfl) (by kernel_rfl) (by kernel_rfl) (fun _ _ _ h => h) (by rfl) hS ?_ ?_
              rotate_left
              · intro w' hw
                have hw : Below _ _ _ := hw
                go_simp
                try with_reducible rfl
              try simp only [List.setIfInBounds_toArray, List.set_cons_zero, List.set_cons_succ]

              refine wpAnyH_done (by kernel_rfl) ?_ _
              have aSB := aSr.below hS aSr.lt
              have aTB := aTr.below hS aTr.lt
              have aOB := aOr.below hS aOr.lt
              have bB := below_in br hS
              have b7B := below_in b7r hS
              clear hS aSr aTr aOr br b7r hwr s0 s1 s2 o0 o1 o2
              go_wp2_with fail
              go_loopw [94] (fun iv wr => ∃ (k : Nat), k ≤ m ∧ iv = .int .i64 k ∧ At wr w.heap.size 25 #[.int .i64 s.ver, .slice s.tA s.tn s.tcap, .slice s.gA s.gn s.gcap] ∧ At wr (w.heap.size + 1) 34 st.cells ∧ At wr w5.heap.size 25 #[.int .i64 o.ver, .slice o.tA o.tn o.tcap, .slice o.gA o.gn o.gcap] ∧ Below w.heap.size w wr ∧ Below w7.heap.size w7 wr ∧ Below wB.heap.size wB wr) (fun iv _ => m - (intOf iv).toNat)
              case atStart => exact ⟨0, by omega, rfl, aSB, aTB, aOB, bB, b7B, Below.refl _ _⟩
              case round =>
                obtain ⟨k, hk, rfl, aSr, aTr, aOr, br, b7r, bBr⟩ := hrel
                clear aSB aTB aOB bB b7B
                obtain ⟨s0, s1, s2⟩ := aSr.tri0
                obtain ⟨o0, o1, o2⟩ := aOr.tri0
                by_cases hlt : k < m
                · obtain ⟨bb, off, hgA, hbl, hcell⟩ := hrow.2.2 (by omega)
                  obtain ⟨c0, c1, c2⟩ := (hcell k hlt).keep fun i => bBr.cell (p := ⟨bb, i, none⟩) hbl
                  have hki : (k : Int) < (m : Int) := by omega
                  have hkl : k + 1 ≤ 20001 := by omega
                  subst hgA
                  obtain ⟨g, hg⟩ : ∃ g, G.getD k default = g := ⟨_, rfl⟩
                  rw [hg] at c0 c1 c2
                  clear hcell hg
                  have kG := below_box wr (.cells #[.int .i64 g.role, .string ⟨g.table.toArray⟩, .int .i64 g.bits] 50)
                  have aX := At.fresh wr 50 #[.int .i64 g.role, .string ⟨g.table.toArray⟩, .int .i64 g.bits]
                  have aST := aSr.below kG aSr.lt
                  have aTT := aTr.below kG aTr.lt
                  have aOT := aOr.below kG aOr.lt
                  have bT := below_in br kG
                  have b7T := below_in b7r kG
                  have bBT := below_in bBr kG
                  have hbi := HSt.out.bits g.role g.table
                  have hB1 := fun w' (b : Below (wr.alloc (.cells #[.int .i64 g.role, .string ⟨g.table.toArray⟩, .int .i64 g.bits] 50)).heap.size (wr.alloc (.cells #[.int .i64 g.role, .string ⟨g.table.toArray⟩, .int .i64 g.bits] 50)) w') => rbits_any s.gA s.gn s.gcap s.grants g.role g.table w' (HS.out.grants.below (below_in bT b)) HS.out.gmax
                  have hB2 := fun w' (b : Below (wr.alloc (.cells #[.int .i64 g.role, .string ⟨g.table.toArray⟩, .int .i64 g.bits] 50)).heap.size (wr.alloc (.cells #[.int .i64 g.role, .string ⟨g.table.toArray⟩, .int .i64 g.bits] 50)) w') => rbits_any o.gA o.gn o.gcap o.grants g.role g.table w' (ho7.grants.below (below_in b7T b)) ho7.gmax
                  obtain ⟨wT, hwT⟩ : ∃ wT, wr.alloc (.cells #[.int .i64 g.role, .string ⟨g.table.toArray⟩, .int .i64 g.bits] 50) = wT := ⟨_, rfl⟩
                  rw [hwT] at aX aST aTT aOT bT b7T bBT hB1 hB2
                  have HWT := Lib.hid hwT
                  have HSC : Hid (∀ w', Below wT.heap.size wT w' → w'.cell? ⟨w.heap.size, 0, none⟩ = some (.int .i64 s.ver) ∧ w'.cell? ⟨w.heap.size, 1, none⟩ = some (.slice s.tA s.tn s.tcap) ∧ w'.cell? ⟨w.heap.size, 2, none⟩ = some (.slice s.gA s.gn s.gcap)) := by show ∀ _, _; exact fun w' b => (aST.below b aST.lt).tri0
                  have HOC : Hid (∀ w', Below wT.heap.size wT w' → w'.cell? ⟨w5.heap.size, 0, none⟩ = some (.int .i64 o.ver) ∧ w'.cell? ⟨w5.heap.size, 1, none⟩ = some (.slice o.tA o.tn o.tcap) ∧ w'.cell? ⟨w5.heap.size, 2, none⟩ = some (.slice o.gA o.gn o.gcap)) := by show ∀ _, _; exact fun w' b => (aOT.below b aOT.lt).tri0
                  have HTC : Hid (∀ w', Below wT.heap.size wT w' → w'.cell? ⟨wr.heap.size, 0, none⟩ = some (.int .i64 g.role) ∧ w'.cell? ⟨wr.heap.size, 1, none⟩ = some (.string ⟨g.table.toArray⟩) ∧ w'.cell? ⟨wr.heap.size, 2, none⟩ = some (.int .i64 g.bits)) := by show ∀ _, _; exact fun w' b => (aX.below b aX.lt).tri0
                  clear hwT
                  by_cases egt : g.table = X
                  · have q1 : (g.table == X) = true := by simp [egt]
                    clear hbi hB1 hB2 egt
                    go_wp2_with fail
                    rw [HWT.out]
                    refine wp_region_held_drew (S := fun w' => Below wT.heap.size wT w') (by kernel_rfl) (show Below wT.heap.size wT wT.drew from (Below.refl _ _).drew) (fun hS => ?_)
                    refine take_at (i := 0) (v := ?_) rfl rfl (by kernel_rfl) (by kernel_rfl) (by kernel_rfl) (fun _ _ _ h => h) (by rfl) hS ?_ ?_
                    rotate_left
                    · intro w' hw
                      have hw : Below _ _ _ := hw
                      go_simp
                      try with_reducible rfl
                    try simp only [List.setIfInBounds_toArray, List.set_cons_zero, List.set_cons_succ]
                    refine take_at (i := 1) (v := ?_) rfl rfl (by kernel_rfl) (by kernel_rfl) (by kernel_rfl) (fun _ _ _ h => h) (by rfl) hS ?_ ?_
                    rotate_left
                    · intro w' hw
                      have hw : Below _ _ _ := hw
                      obtain ⟨t0, t1, t2⟩ := HTC.out w' hw
                      go_simp
                      try with_reducible rfl
                    try simp only [List.setIfInBounds_toArray, List.set_cons_zero, List.set_cons_succ]
                    refine take_at (i := 2) (v := ?_) rfl rfl (by kernel_rfl) (by kernel_rfl) (by kernel_rfl) (fun _ _ _ h => h) (by rfl) hS ?_ ?_
                    rotate_left
                    · intro w' hw
                      have hw : Below _ _ _ := hw
                      go_simp
                      try with_reducible rfl
                    try simp only [List.setIfInBounds_toArray, List.set_cons_zero, List.set_cons_succ]
                    refine take_at (i := 3) (v := ?_) rfl rfl (by kernel_rfl) (by kernel_rfl) (by kernel_rfl) (fun _ _ _ h => h) (by rfl) hS ?_ ?_
                    rotate_left
                    · intro w' hw
                      have hw : Below _ _ _ := hw
                      go_simp
                      try with_reducible rfl
                    try simp only [List.setIfInBounds_toArray, List.set_cons_zero, List.set_cons_succ]
                    refine take_at (i := 4) (v := ?_) rfl rfl (by kernel_rfl) (by kernel_rfl) (by kernel_rfl) (fun _ _ _ h => h) (by rfl) hS ?_ ?_
                    rotate_left
                    · intro w' hw
                      have hw : Below _ _ _ := hw
                      go_simp
                      try with_reducible rfl
                    try simp only [List.setIfInBounds_toArray, List.set_cons_zero, List.set_cons_succ]
                    refine skip_at (i := 5) rfl rfl (by kernel_rfl) (by kernel_rfl) (by kernel_rfl) (fun _ _ _ h => h) (by rfl) hS ?_
                    try simp only [List.setIfInBounds_toArray, List.set_cons_zero, List.set_cons_succ]
                    refine skip_at (i := 6) rfl rfl (by kernel_rfl) (by kernel_rfl) (by kernel_rfl) (fun _ _ _ h => h) (by rfl) hS ?_
                    try simp only [List.setIfInBounds_toArray, List.set_cons_zero, List.set_cons_succ]
                    refine skip_at (i := 7) rfl rfl (by kernel_rfl) (by kernel_rfl) (by kernel_rfl) (fun _ _ _ h => h) (by rfl) hS ?_
                    try simp only [List.setIfInBounds_toArray, List.set_cons_zero, List.set_cons_succ]
                    refine skip_at (i := 8) rfl rfl (by kernel_rfl) (by kernel_rfl) (by kernel_rfl) (fun _ _ _ h => h) (by rfl) hS ?_
                    try simp only [List.setIfInBounds_toArray, List.set_cons_zero, List.set_cons_succ]
                    refine skip_at (i := 9) rfl rfl (by kernel_rfl) (by kernel_rfl) (by kernel_rfl) (fun _ _ _ h => h) (by rfl) hS ?_
                    try simp only [List.setIfInBounds_toArray, List.set_cons_zero, List.set_cons_succ]
                    refine skip_at (i := 10) rfl rfl (by kernel_rfl) (by kernel_rfl) (by kernel_rfl) (fun _ _ _ h => h) (by rfl) hS ?_
                    try simp only [List.setIfInBounds_toArray, List.set_cons_zero, List.set_cons_succ]
                    refine skip_at (i := 12) rfl rfl (by kernel_rfl) (by kernel_rfl) (by kernel_rfl) (fun _ _ _ h => h) (by rfl) hS ?_
                    try simp only [List.setIfInBounds_toArray, List.set_cons_zero, List.set_cons_succ]
                    refine skip_at (i := 13) rfl rfl (by kernel_rfl) (by kernel_rfl) (by kernel_rfl) (fun _ _ _ h => h) (by rfl) hS ?_
                    try simp only [List.setIfInBounds_toArray, List.set_cons_zero, List.set_cons_succ]
                    refine skip_at (i := 14) rfl rfl (by kernel_rfl) (by kernel_rfl) (by kernel_rfl) (fun _ _ _ h => h) (by rfl) hS ?_
                    try simp only [List.setIfInBounds_toArray, List.set_cons_zero, List.set_cons_succ]
                    refine skip_at (i := 15) rfl rfl (by kernel_rfl) (by kernel_rfl) (by kernel_rfl) (fun _ _ _ h => h) (by rfl) hS ?_
                    try simp only [List.setIfInBounds_toArray, List.set_cons_zero, List.set_cons_succ]
                    refine skip_at (i := 16) rfl rfl (by kernel_rfl) (by kernel_rfl) (by kernel_rfl) (fun _ _ _ h => h) (by rfl) hS ?_
                    try simp only [List.setIfInBounds_toArray, List.set_cons_zero, List.set_cons_succ]
                    refine skip_at (i := 17) rfl rfl (by kernel_rfl) (by kernel_rfl) (by kernel_rfl) (fun _ _ _ h => h) (by rfl) hS ?_
                    try simp only [List.setIfInBounds_toArray, List.set_cons_zero, List.set_cons_succ]
                    refine skip_only (i := 11) rfl (by kernel_rfl) (by rfl) hS ?_
                    try simp only [Act.put, List.setIfInBounds_toArray, List.set_cons_zero, List.set_cons_succ]
                    refine skip_only (i := 18) rfl (by kernel_rfl) (by rfl) hS ?_
                    try simp only [Act.put, List.setIfInBounds_toArray, List.set_cons_zero, List.set_cons_succ]
                    refine skip_at (i := 19) rfl rfl (by kernel_rfl) (by kernel_rfl) (by kernel_rfl) (fun _ _ _ h => h) (by rfl) hS ?_
                    try simp only [List.setIfInBounds_toArray, List.set_cons_zero, List.set_cons_succ]
                    refine take_at (i := 20) (v := ?_) rfl rfl (by kernel_rfl) (by kernel_rfl) (by kernel_rfl) (fun _ _ _ h => h) (by rfl) hS ?_ ?_
                    rotate_left
                    · intro w' hw
                      have hw : Below _ _ _ := hw
                      go_simp
                      try with_reducible rfl
                    try simp only [List.setIfInBounds_toArray, List.set_cons_zero, List.set_cons_succ]
                    refine wpAnyH_done (by kernel_rfl) ?_ _
                    go_wp2_with fail
                    exact ⟨⟨k + 1, by omega, by go_num, aST.below hS aST.lt, aTT.below hS aTT.lt, aOT.below hS aOT.lt, below_in bT hS, below_in b7T hS, below_in bBT hS⟩, by simp [intOf]; omega⟩
                  · have q1 : (g.table == X) = false := by simp [egt]
                    have hbe := hbi egt
                    rw [← hbe] at hB2
                    generalize bitsG g.role g.table s.grants = bg at *
                    clear hbi hbe egt
                    go_wp2_with fail
                    rw [HWT.out]
                    refine wp_region_held_drew (S := fun w' => Below wT.heap.size wT w') (by kernel_rfl) (show Below wT.heap.size wT wT.drew from (Below.refl _ _).drew) (fun hS => ?_)
                    refine take_at (i := 0) (v := ?_) rfl rfl (by kernel_rfl) (by kernel_rfl) (by kernel_rfl) (fun _ _ _ h => h) (by rfl) hS ?_ ?_
                    rotate_left
                    · intro w' hw
                      have hw : Below _ _ _ := hw
                      go_simp
                      try with_reducible rfl
                    try simp only [List.setIfInBounds_toArray, List.set_cons_zero, List.set_cons_succ]
                    refine take_at (i := 1) (v := ?_) rfl rfl (by kernel_rfl) (by kernel_rfl) (by kernel_rfl) (fun _ _ _ h => h) (by rfl) hS ?_ ?_
                    rotate_left
                    · intro w' hw
                      have hw : Below _ _ _ := hw
                      obtain ⟨t0, t1, t2⟩ := HTC.out w' hw
                      go_simp
                      try with_reducible rfl
                    try simp only [List.setIfInBounds_toArray, List.set_cons_zero, List.set_cons_succ]
                    refine take_at (i := 2) (v := ?_) rfl rfl (by kernel_rfl) (by kernel_rfl) (by kernel_rfl) (fun _ _ _ h => h) (by rfl) hS ?_ ?_
                    rotate_left
                    · intro w' hw
                      have hw : Below _ _ _ := hw
                      go_simp
                      try with_reducible rfl
                    try simp only [List.setIfInBounds_toArray, List.set_cons_zero, List.set_cons_succ]
                    refine take_at (i := 3) (v := ?_) rfl rfl (by kernel_rfl) (by kernel_rfl) (by kernel_rfl) (fun _ _ _ h => h) (by rfl) hS ?_ ?_
                    rotate_left
                    · intro w' hw
                      have hw : Below _ _ _ := hw
                      go_simp
                      try with_reducible rfl
                    try simp only [List.setIfInBounds_toArray, List.set_cons_zero, List.set_cons_succ]
                    refine take_at (i := 4) (v := ?_) rfl rfl (by kernel_rfl) (by kernel_rfl) (by kernel_rfl) (fun _ _ _ h => h) (by rfl) hS ?_ ?_
                    rotate_left
                    · intro w' hw
                      have hw : Below _ _ _ := hw
                      go_simp
                      try with_reducible rfl
                    try simp only [List.setIfInBounds_toArray, List.set_cons_zero, List.set_cons_succ]
                    refine take_at (i := 5) (v := ?_) rfl rfl (by kernel_rfl) (by kernel_rfl) (by kernel_rfl) (fun _ _ _ h => h) (by rfl) hS ?_ ?_
                    rotate_left
                    · intro w' hw
                      have hw : Below _ _ _ := hw
                      go_simp
                      try with_reducible rfl
                    try simp only [List.setIfInBounds_toArray, List.set_cons_zero, List.set_cons_succ]
                    refine take_at (i := 6) (v := ?_) rfl rfl (by kernel_rfl) (by kernel_rfl) (by kernel_rfl) (fun _ _ _ h => h) (by rfl) hS ?_ ?_
                    rotate_left
                    · intro w' hw
                      have hw : Below _ _ _ := hw
                      obtain ⟨q0, q1', q2⟩ := HSC.out w' hw
                      go_simp
                      try with_reducible rfl
                    try simp only [List.setIfInBounds_toArray, List.set_cons_zero, List.set_cons_succ]
                    refine take_at (i := 7) (v := ?_) rfl rfl (by kernel_rfl) (by kernel_rfl) (by kernel_rfl) (fun _ _ _ h => h) (by rfl) hS ?_ ?_
                    rotate_left
                    · intro w' hw
                      have hw : Below _ _ _ := hw
                      go_simp
                      try with_reducible rfl
                    try simp only [List.setIfInBounds_toArray, List.set_cons_zero, List.set_cons_succ]
                    refine take_at (i := 8) (v := ?_) rfl rfl (by kernel_rfl) (by kernel_rfl) (by kernel_rfl) (fun _ _ _ h => h) (by rfl) hS ?_ ?_
                    rotate_left
                    · intro w' hw
                      have hw : Below _ _ _ := hw
                      obtain ⟨t0, t1, t2⟩ := HTC.out w' hw
                      go_simp
                      try with_reducible rfl
                    try simp only [List.setIfInBounds_toArray, List.set_cons_zero, List.set_cons_succ]
                    refine take_at (i := 9) (v := ?_) rfl rfl (by kernel_rfl) (by kernel_rfl) (by kernel_rfl) (fun _ _ _ h => h) (by rfl) hS ?_ ?_
                    rotate_left
                    · intro w' hw
                      have hw : Below _ _ _ := hw
                      go_simp
                      try with_reducible rfl
                    try simp only [List.setIfInBounds_toArray, List.set_cons_zero, List.set_cons_succ]
                    refine take_at (i := 10) (v := ?_) rfl rfl (by kernel_rfl) (by kernel_rfl) (by kernel_rfl) (fun _ _ _ h => h) (by rfl) hS ?_ ?_
                    rotate_left
                    · intro w' hw
                      have hw : Below _ _ _ := hw
                      obtain ⟨t0, t1, t2⟩ := HTC.out w' hw
                      go_simp
                      try with_reducible rfl
                    try simp only [List.setIfInBounds_toArray, List.set_cons_zero, List.set_cons_succ]
                    refine take_at (i := 12) (v := ?_) rfl rfl (by kernel_rfl) (by kernel_rfl) (by kernel_rfl) (fun _ _ _ h => h) (by rfl) hS ?_ ?_
                    rotate_left
                    · intro w' hw
                      have hw : Below _ _ _ := hw
                      go_simp
                      try with_reducible rfl
                    try simp only [List.setIfInBounds_toArray, List.set_cons_zero, List.set_cons_succ]
                    refine take_at (i := 13) (v := ?_) rfl rfl (by kernel_rfl) (by kernel_rfl) (by kernel_rfl) (fun _ _ _ h => h) (by rfl) hS ?_ ?_
                    rotate_left
                    · intro w' hw
                      have hw : Below _ _ _ := hw
                      obtain ⟨q0, q1', q2⟩ := HOC.out w' hw
                      go_simp
                      try with_reducible rfl
                    try simp only [List.setIfInBounds_toArray, List.set_cons_zero, List.set_cons_succ]
                    refine take_at (i := 14) (v := ?_) rfl rfl (by kernel_rfl) (by kernel_rfl) (by kernel_rfl) (fun _ _ _ h => h) (by rfl) hS ?_ ?_
                    rotate_left
                    · intro w' hw
                      have hw : Below _ _ _ := hw
                      go_simp
                      try with_reducible rfl
                    try simp only [List.setIfInBounds_toArray, List.set_cons_zero, List.set_cons_succ]
                    refine take_at (i := 15) (v := ?_) rfl rfl (by kernel_rfl) (by kernel_rfl) (by kernel_rfl) (fun _ _ _ h => h) (by rfl) hS ?_ ?_
                    rotate_left
                    · intro w' hw
                      have hw : Below _ _ _ := hw
                      obtain ⟨t0, t1, t2⟩ := HTC.out w' hw
                      go_simp
                      try with_reducible rfl
                    try simp only [List.setIfInBounds_toArray, List.set_cons_zero, List.set_cons_succ]
                    refine take_at (i := 16) (v := ?_) rfl rfl (by kernel_rfl) (by kernel_rfl) (by kernel_rfl) (fun _ _ _ h => h) (by rfl) hS ?_ ?_
                    rotate_left
                    · intro w' hw
                      have hw : Below _ _ _ := hw
                      go_simp
                      try with_reducible rfl
                    try simp only [List.setIfInBounds_toArray, List.set_cons_zero, List.set_cons_succ]
                    refine take_at (i := 17) (v := ?_) rfl rfl (by kernel_rfl) (by kernel_rfl) (by kernel_rfl) (fun _ _ _ h => h) (by rfl) hS ?_ ?_
                    rotate_left
                    · intro w' hw
                      have hw : Below _ _ _ := hw
                      obtain ⟨t0, t1, t2⟩ := HTC.out w' hw
                      go_simp
                      try with_reducible rfl
                    try simp only [List.setIfInBounds_toArray, List.set_cons_zero, List.set_cons_succ]
                    refine only_at (i := 11) rfl (by kernel_rfl) (by rfl) (fun K hK => ?_)
                    go_simp
                    refine (hB1 _ hS).mono ?_
                    rintro e w8 ⟨rfl, k8⟩
                    have hS8 : Below wT.heap.size wT w8 := below_in hS k8
                    go_simp
                    refine hK.out _ _ hS8 (fun hS => ?_)
                    clear hK K hS8
                    try simp only [Act.put, List.setIfInBounds_toArray, List.set_cons_zero, List.set_cons_succ]
                    refine only_at (i := 18) rfl (by kernel_rfl) (by rfl) (fun K hK => ?_)
                    go_simp
                    refine (hB2 _ hS).mono ?_
                    rintro e w8 ⟨rfl, k8⟩
                    have hS8 : Below wT.heap.size wT w8 := below_in hS k8
                    go_simp
                    refine hK.out _ _ hS8 (fun hS => ?_)
                    clear hK K hS8
                    try simp only [Act.put, List.setIfInBounds_toArray, List.set_cons_zero, List.set_cons_succ]
                    refine take_at (i := 19) (v := ?_) rfl rfl (by kernel_rfl) (by kernel_rfl) (by kernel_rfl) (fun _ _ _ h => h) (by rfl) hS ?_ ?_
                    rotate_left
                    · intro w' hw
                      have hw : Below _ _ _ := hw
                      go_simp
                      try with_reducible rfl
                    try simp only [List.setIfInBounds_toArray, List.set_cons_zero, List.set_cons_succ]
                    refine take_at (i := 20) (v := ?_) rfl rfl (by kernel_rfl) (by kernel_rfl) (by kernel_rfl) (fun _ _ _ h => h) (by rfl) hS ?_ ?_
                    rotate_left
                    · intro w' hw
                      have hw : Below _ _ _ := hw
                      go_simp
                      try with_reducible rfl
                    try simp only [List.setIfInBounds_toArray, List.set_cons_zero, List.set_cons_succ]
                    refine wpAnyH_done (by kernel_rfl) ?_ _
                    go_wp2_with fail
                    exact ⟨⟨k + 1, by omega, by go_num, aST.below hS aST.lt, aTT.below hS aTT.lt, aOT.below hS aOT.lt, below_in bT hS, below_in b7T hS, below_in bBT hS⟩, by simp [intOf]; omega⟩
                · obtain rfl : k = m := by omega
                  clear hrow bBr
                  have d0 := aTr.stmt.c0
                  rcases hps with rfl | ⟨e6, hp6⟩
                  · go_wp2_with fail
                    go_ret
                    exact ⟨by simp, br⟩
                  · have hk6' : (st.kind == 6) = true := by simp [e6]
                    have hpw : IntKind.i64.wrap ((p : Int) + 1) = (o.tn : Int) := by rw [IntKind.wrap_i64]; omega
                    have hpe : ((p : Int) == (o.tn : Int)) = false := by simp; omega
                    have hpe2 : (p == o.tn) = false := by simp; omega
                    clear e6 hp6
                    first
                    | exact absurd hk6 (by rw [hk6']; decide)
                    | (go_wp2_with fail
                       go_ret
                       exact ⟨by simp, br⟩)
        · have hXn : st.table = X := by rw [← hX]; unfold nameOf; rw [if_neg c6]
          rw [hXn] at d1
          have hk6 : (st.kind == 6) = false := by simpa using c6
          clear hX hXn
          go_wp2_with fail
          go_loopw [11, 55] (fun nv iv wr => ∃ (k : Nat), k ≤ s.tn ∧ iv = .int .i64 k ∧ nv = .int .i64 (pos k) ∧ At wr w.heap.size 25 #[.int .i64 s.ver, .slice s.tA s.tn s.tcap, .slice s.gA s.gn s.gcap] ∧ At wr (w.heap.size + 1) 34 st.cells ∧ At wr w5.heap.size 25 #[.int .i64 o.ver, .slice o.tA o.tn o.tcap, .slice o.gA o.gn o.gcap] ∧ Below w.heap.size w wr ∧ Below w7.heap.size w7 wr) (fun _ iv _ => s.tn - (intOf iv).toNat)
          case atStart => exact ⟨0, by omega, rfl, by rw [hp0]; rfl, aS7, aT7, aO7, bb7, Below.refl _ _⟩
          case round =>
            obtain ⟨k, hk, rfl, rfl, aSr, aTr, aOr, br, b7r⟩ := hrel
            clear s0 s1 s2 o0 o1 o2 d0 d1 d13 hp0 aS7 aT7 aO7 bb7
            obtain ⟨s0, s1, s2⟩ := aSr.tri0
            by_cases hlt : k < s.tn
            · obtain ⟨bb, off, htA, hbl, hcell⟩ := HS.out.tabs (by omega)
              obtain ⟨c0, c1, c2, c3⟩ := (hcell k hlt).1.keep fun i => br.cell (p := ⟨bb, i, none⟩) hbl
              have hin := (hcell k hlt).2.below br
              have hsk := HSt.out.skip k hlt
              have hkp := HSt.out.keep k hlt
              have hki : (k : Int) < (s.tn : Int) := by omega
              rw [htA] at aSr s1 ⊢
              have HTA := Lib.hid htA
              clear hcell htA
              obtain ⟨t, ht⟩ : ∃ t, s.tab k = t := ⟨_, rfl⟩
              rw [ht] at c0 c1 c2 c3 hin hsk hkp
              clear ht
              have kT := below_box wr (.cells #[.string ⟨t.name.toArray⟩, .int .i64 t.owner, .slice t.cA t.cn t.ccap, .slice t.eA t.en t.ecap] 32)
              have aX := At.fresh wr 32 #[.string ⟨t.name.toArray⟩, .int .i64 t.owner, .slice t.cA t.cn t.ccap, .slice t.eA t.en t.ecap]
              have aST := aSr.below kT aSr.lt
              have aTT := aTr.below kT aTr.lt
              have aOT := aOr.below kT aOr.lt
              have bT := below_in br kT
              have b7T := below_in b7r kT
              have hinT := hin.below kT
              have d0 := aTT.stmt.c0
              obtain ⟨t0, t1, t2, t3, -⟩ := aX.four
              obtain ⟨p, hp⟩ : ∃ p, pos k = p := ⟨_, rfl⟩
              rw [hp] at hsk hkp ⊢
              clear hp kT
              by_cases hskip : t.name = X ∧ st.kind = 7
              · have hpk := hsk hskip.1 hskip.2
                have q1 : (t.name == X) = true := by simp [hskip.1]
                have q7 : (st.kind == 7) = true := by simp [hskip.2]
                clear hskip hsk hkp
                go_wp2_with fail
                exact ⟨⟨k + 1, by omega, by go_num, by rw [hpk], by first | exact aST | (rw [HTA.out]; exact aST), aTT, aOT, bT, b7T⟩, by simp [intOf]; omega⟩
              · obtain ⟨hp1, hp2, hp3⟩ := hkp hskip
                have hq : ((t.name == X) = true ∧ (st.kind == 7) = false) ∨ (t.name == X) = false := by
                  by_cases e1 : t.name = X
                  · exact .inl ⟨by simp [e1], by simp; exact fun e => hskip ⟨e1, e⟩⟩
                  · exact .inr (by simp [e1])
                clear hskip hsk hkp
                obtain ⟨bo, oo, hoA, hol, hoc⟩ := ho7.tabs (by omega)
                have hop := hoc p hp2
                have hSm := fun w' (b : Below (wr.alloc (.cells #[.string ⟨t.name.toArray⟩, .int .i64 t.owner, .slice t.cA t.cn t.ccap, .slice t.eA t.en t.ecap] 32)).heap.size (wr.alloc (.cells #[.string ⟨t.name.toArray⟩, .int .i64 t.owner, .slice t.cA t.cn t.ccap, .slice t.eA t.en t.ecap] 32)) w') => sameT_any (o.tab p) t w' ((hop.2.below b7T).below b) (hinT.below b) (simT_tree (hop.2.below b7T) hinT hp3)
                have hpc := fun w' (b : Below (wr.alloc (.cells #[.string ⟨t.name.toArray⟩, .int .i64 t.owner, .slice t.cA t.cn t.ccap, .slice t.eA t.en t.ecap] 32)).heap.size (wr.alloc (.cells #[.string ⟨t.name.toArray⟩, .int .i64 t.owner, .slice t.cA t.cn t.ccap, .slice t.eA t.en t.ecap] 32)) w') => hop.1.keep fun i => (below_in b7T b).cell (p := ⟨bo, i, none⟩) hol
                have hpi : (p : Int) < (o.tn : Int) := by omega
                have hpn : decide ((o.tn : Int) ≤ (p : Int)) = false := by simp; omega
                have hpm : decide (o.tn ≤ p) = false := by simp; omega
                have hpo : (0 : Int) ≤ (p : Int) := by omega
                obtain ⟨u, hu⟩ : ∃ u, o.tab p = u := ⟨_, rfl⟩
                rw [hu] at hSm hpc
                unfold Tb.val at hSm
                rw [hoA] at aOT
                have HOA := Lib.hid hoA
                obtain ⟨wT, hwT⟩ : ∃ wT, wr.alloc (.cells #[.string ⟨t.name.toArray⟩, .int .i64 t.owner, .slice t.cA t.cn t.ccap, .slice t.eA t.en t.ecap] 32) = wT := ⟨_, rfl⟩
                rw [hwT] at aX aST aTT aOT bT b7T hSm hpc
                have HWT := Lib.hid hwT
                have HPC : Hid (∀ w', Below wT.heap.size wT w' → CellsT w' bo (oo + p * 4) u) := by show ∀ _, _; exact hpc
                have HOC : Hid (∀ w', Below wT.heap.size wT w' → w'.cell? ⟨w5.heap.size, 0, none⟩ = some (.int .i64 o.ver) ∧ w'.cell? ⟨w5.heap.size, 1, none⟩ = some (.slice (some ⟨bo, oo, none⟩) o.tn o.tcap) ∧ w'.cell? ⟨w5.heap.size, 2, none⟩ = some (.slice o.gA o.gn o.gcap)) := by show ∀ _, _; exact fun w' b => (aOT.below b aOT.lt).tri0
                have HTC : Hid (∀ w', Below wT.heap.size wT w' → w'.cell? ⟨wr.heap.size, 0, none⟩ = some (.string ⟨t.name.toArray⟩) ∧ w'.cell? ⟨wr.heap.size, 1, none⟩ = some (.int .i64 t.owner) ∧ w'.cell? ⟨wr.heap.size, 2, none⟩ = some (.slice t.cA t.cn t.ccap) ∧ w'.cell? ⟨wr.heap.size, 3, none⟩ = some (.slice t.eA t.en t.ecap)) := by
                  show ∀ _, _
                  intro w' b
                  obtain ⟨a0, a1, a2, a3, -⟩ := (aX.below b aX.lt).four
                  exact ⟨a0, a1, a2, a3⟩
                clear hu hoA hwT hpc hop hoc hin hinT hp3
                rcases hq with ⟨q1, q7⟩ | q1
                all_goals
                  go_wp2_with fail
                  rw [HWT.out]
                  refine wp_region_held_drew (S := fun w' => Below wT.heap.size wT w') (by kernel_rfl) (show Below wT.heap.size wT wT.drew from (Below.refl _ _).drew) (fun hS => ?_)
                  refine take_at (i := 0) (v := ?_) rfl rfl (by kernel_rfl) (by kernel_rfl) (by kernel_rfl) (fun _ _ _ h => h) (by rfl) hS ?_ ?_
                  rotate_left
                  · intro w' hw
                    have hw : Below _ _ _ := hw
                    go_simp
                    try with_reducible rfl
                  try simp only [List.setIfInBounds_toArray, List.set_cons_zero, List.set_cons_succ]
                  refine take_at (i := 1) (v := ?_) rfl rfl (by kernel_rfl) (by kernel_rfl) (by kernel_rfl) (fun _ _ _ h => h) (by rfl) hS ?_ ?_
                  rotate_left
                  · intro w' hw
                    have hw : Below _ _ _ := hw
                    go_simp
                    try with_reducible rfl
                  try simp only [List.setIfInBounds_toArray, List.set_cons_zero, List.set_cons_succ]
                  refine take_at (i := 2) (v := ?_) rfl rfl (by kernel_rfl) (by kernel_rfl) (by kernel_rfl) (fun _ _ _ h => h) (by rfl) hS ?_ ?_
                  rotate_left
                  · intro w' hw
                    have hw : Below _ _ _ := hw
                    obtain ⟨o0, o1, o2⟩ := HOC.out w' hw
                    go_simp
                    try with_reducible rfl
                  try simp only [List.setIfInBounds_toArray, List.set_cons_zero, List.set_cons_succ]
                  refine take_at (i := 3) (v := ?_) rfl rfl (by kernel_rfl) (by kernel_rfl) (by kernel_rfl) (fun _ _ _ h => h) (by rfl) hS ?_ ?_
                  rotate_left
                  · intro w' hw
                    have hw : Below _ _ _ := hw
                    go_simp
                    try with_reducible rfl
                  try simp only [List.setIfInBounds_toArray, List.set_cons_zero, List.set_cons_succ]
                  refine take_at (i := 4) (v := ?_) rfl rfl (by kernel_rfl) (by kernel_rfl) (by kernel_rfl) (fun _ _ _ h => h) (by rfl) hS ?_ ?_
                  rotate_left
                  · intro w' hw
                    have hw : Below _ _ _ := hw
                    go_simp
                    try with_reducible rfl
                  try simp only [List.setIfInBounds_toArray, List.set_cons_zero, List.set_cons_succ]
                  refine take_at (i := 5) (v := ?_) rfl rfl (by kernel_rfl) (by kernel_rfl) (by kernel_rfl) (fun _ _ _ h => h) (by rfl) hS ?_ ?_
                  rotate_left
                  · intro w' hw
                    have hw : Below _ _ _ := hw
                    go_simp
                    try with_reducible rfl
                  try simp only [List.setIfInBounds_toArray, List.set_cons_zero, List.set_cons_succ]
                  refine take_at (i := 6) (v := ?_) rfl rfl (by kernel_rfl) (by kernel_rfl) (by kernel_rfl) (fun _ _ _ h => h) (by rfl) hS ?_ ?_
                  rotate_left
                  · intro w' hw
                    have hw : Below _ _ _ := hw
                    go_simp
                    try with_reducible rfl
                  try simp only [List.setIfInBounds_toArray, List.set_cons_zero, List.set_cons_succ]
                  refine take_at (i := 7) (v := ?_) rfl rfl (by kernel_rfl) (by kernel_rfl) (by kernel_rfl) (fun _ _ _ h => h) (by rfl) hS ?_ ?_
                  rotate_left
                  · intro w' hw
                    have hw : Below _ _ _ := hw
                    obtain ⟨o0, o1, o2⟩ := HOC.out w' hw
                    go_simp
                    try with_reducible rfl
                  try simp only [List.setIfInBounds_toArray, List.set_cons_zero, List.set_cons_succ]
                  refine take_at (i := 8) (v := ?_) rfl rfl (by kernel_rfl) (by kernel_rfl) (by kernel_rfl) (fun _ _ _ h => h) (by rfl) hS ?_ ?_
                  rotate_left
                  · intro w' hw
                    have hw : Below _ _ _ := hw
                    go_simp
                    try with_reducible rfl
                  try simp only [List.setIfInBounds_toArray, List.set_cons_zero, List.set_cons_succ]
                  refine take_at (i := 9) (v := ?_) rfl rfl (by kernel_rfl) (by kernel_rfl) (by kernel_rfl) (fun _ _ _ h => h) (by rfl) hS ?_ ?_
                  rotate_left
                  · intro w' hw
                    have hw : Below _ _ _ := hw
                    go_simp
                    try with_reducible rfl
                  try simp only [List.setIfInBounds_toArray, List.set_cons_zero, List.set_cons_succ]
                  refine take_at (i := 10) (v := ?_) rfl rfl (by kernel_rfl) (by kernel_rfl) (by kernel_rfl) (fun _ _ _ h => h) (by rfl) hS ?_ ?_
                  rotate_left
                  · intro w' hw
                    have hw : Below _ _ _ := hw
                    obtain ⟨e0, e1, e2, e3⟩ := HPC.out w' hw
                    go_simp
                    try with_reducible rfl
                  try simp only [List.setIfInBounds_toArray, List.set_cons_zero, List.set_cons_succ]
                  refine take_at (i := 11) (v := ?_) rfl rfl (by kernel_rfl) (by kernel_rfl) (by kernel_rfl) (fun _ _ _ h => h) (by rfl) hS ?_ ?_
                  rotate_left
                  · intro w' hw
                    have hw : Below _ _ _ := hw
                    obtain ⟨t0, t1, t2, t3⟩ := HTC.out w' hw
                    go_simp
                    try with_reducible rfl
                  try simp only [List.setIfInBounds_toArray, List.set_cons_zero, List.set_cons_succ]
                  refine only_at (i := 12) rfl (by kernel_rfl) (by rfl) (fun K hK => ?_)
                  go_simp
                  refine (hSm _ hS).mono ?_
                  rintro e w8 ⟨rfl, k8⟩
                  have hS8 : Below wT.heap.size wT w8 := below_in hS k8
                  go_simp
                  refine hK.out _ _ hS8 (fun hS => ?_)
                  clear hK K hS8
                  try simp only [Act.put, List.setIfInBounds_toArray, List.set_cons_zero, List.set_cons_succ]
                  refine take_at (i := 13) (v := ?_) rfl rfl (by kernel_rfl) (by kernel_rfl) (by kernel_rfl) (fun _ _ _ h => h) (by rfl) hS ?_ ?_
                  rotate_left
                  · intro w' hw
                    have hw : Below _ _ _ := hw
                    go_simp
                    try with_reducible rfl
                  try simp only [List.setIfInBounds_toArray, List.set_cons_zero, List.set_cons_succ]
                  refine take_at (i := 14) (v := ?_) rfl rfl (by kernel_rfl) (by kernel_rfl) (by kernel_rfl) (fun _ _ _ h => h) (by rfl) hS ?_ ?_
                  rotate_left
                  · intro w' hw
                    have hw : Below _ _ _ := hw
                    go_simp
                    try with_reducible rfl
                  try simp only [List.setIfInBounds_toArray, List.set_cons_zero, List.set_cons_succ]
                  refine wpAnyH_done (by kernel_rfl) ?_ _
                  go_wp2_with fail
                  exact ⟨⟨k + 1, by omega, by go_num, by rw [hp1]; go_num, by first | exact aST.below hS aST.lt | (rw [HTA.out]; exact aST.below hS aST.lt), aTT.below hS aTT.lt, by first | exact aOT.below hS aOT.lt | (rw [HOA.out]; exact aOT.below hS aOT.lt), below_in bT hS, below_in b7T hS⟩, by simp [intOf]; omega⟩
            · obtain rfl : k = s.tn := by omega
              obtain ⟨o0, o1, o2⟩ := aOr.tri0
              have hps := HSt.out.stop
              obtain ⟨p, hp⟩ : ∃ p, pos s.tn = p := ⟨_, rfl⟩
              rw [hp] at hps ⊢
              clear hp
              go_wp2_with fail
              have hwr := Below.size br
              refine wp_region_held_drew (S := fun w' => Below wr.heap.size wr w') (by kernel_rfl) (show Below wr.heap.size wr wr.drew from (Below.refl _ _).drew) (fun hS => ?_)
              refine take_at (i := 1) (v := ?_) rfl rfl (by kernel_rfl) (by kernel_rfl) (by kernel_rfl) (fun _ _ _ h => h) (by rfl) hS ?_ ?_
              rotate_left
              · intro w' hw
                have hw : Below _ _ _ := hw
                go_simp
                try with_reducible rfl
              try simp only [List.setIfInBounds_toArray, List.set_cons_zero, List.set_cons_succ]
              refine take_at (i := 2) (v := ?_) rfl rfl (by kernel_rfl) (by kernel_rfl) (by kernel_rfl) (fun _ _ _ h => h) (by rfl) hS ?_ ?_
              rotate_left
              · intro w' hw
                have hw : Below _ _ _ := hw
                obtain ⟨q0, q1, q2⟩ := (aSr.below hw aSr.lt).tri0
                go_simp
                try with_reducible rfl
              try simp only [List.setIfInBounds_toArray, List.set_cons_zero, List.set_cons_succ]
              refine take_at (i := 4) (v := ?_) rfl rfl (by kernel_rfl) (by kernel_rfl) (by kernel_rfl) (fun _ _ _ h => h) (by rfl) hS ?_ ?_
              rotate_left
              · intro w' hw
                have hw : Below _ _ _ := hw
                go_simp
                try with_reducible rfl
              try simp only [List.setIfInBounds_toArray, List.set_cons_zero, List.set_cons_succ]
              refine take_at (i := 5) (v := ?_) rfl rfl (by kernel_rfl) (by kernel_rfl) (by kernel_rfl) (fun _ _ _ h => h) (by rfl) hS ?_ ?_
              rotate_left
              · intro w' hw
                have hw : Below _ _ _ := hw
                obtain ⟨q0, q1, q2⟩ := (aOr.below hw aOr.lt).tri0
                go_simp
                try with_reducible rfl
              try simp only [List.setIfInBounds_toArray, List.set_cons_zero, List.set_cons_succ]
              refine take_at (i := 8) (v := ?_) rfl rfl (by kernel_rfl) (by kernel_rfl) (by kernel_rfl) (fun _ _ _ h => h) (by rfl) hS ?_ ?_
              rotate_left
              · intro w' hw
                have hw : Below _ _ _ := hw
                go_simp
                try with_reducible rfl
              try simp only [List.setIfInBounds_toArray, List.set_cons_zero, List.set_cons_succ]
              refine only_at (i := 0) rfl (by kernel_rfl) (by rfl) (fun K hK => ?_)
              go_simp
              have hS1 : Below wr.heap.size wr (wr.alloc (.cells #[] 50)).drew := ((Below.refl wr.heap.size wr).alloc (Nat.le_refl _) _).drew
              have ho0 := (World.ownsRow_lit (base := wr.heap.size) (e := 50) (size := 3) wr #[] 0 (Nat.le_refl _) (by unfold maxLen; decide) (by simp)).drew
              obtain ⟨wZ, hwZ⟩ : ∃ wZ, (wr.alloc (.cells #[] 50)).drew = wZ := ⟨_, rfl⟩
              rw [hwZ] at hS1 ho0 ⊢
              refine hK.out _ _ hS1 (fun hS => ?_)
              clear hK K hS1 hwZ
              try simp only [Act.put, List.setIfInBounds_toArray, List.set_cons_zero, List.set_cons_succ]
              refine only_at (i := 3) rfl (by kernel_rfl) (by rfl) (fun K hK => ?_)
              refine wp_append_gr (.tmp 86) (.tmp 88) rfl ho0 s.gA s.gn s.gcap s.grants (HS.out.grants.below (below_in br hS)) rfl rfl (by omega) (Below.size hS) ?_
              intro v1 wA ho1 hg1
              have hSA : Below wr.heap.size wr wA := Below.grown hS hg1 (Below.size hS) (fun kk e => (World.ownsRow.lt ho0 kk e).1)
              go_simp
              refine hK.out _ _ hSA (fun hS => ?_)
              clear hK K hSA hg1 ho0
              try simp only [Act.put, List.setIfInBounds_toArray, List.set_cons_zero, List.set_cons_succ]
              refine only_at (i := 6) rfl (by kernel_rfl) (by rfl) (fun K hK => ?_)
              refine wp_append_gr (.tmp 89) (.tmp 91) rfl ho1 o.gA o.gn o.gcap o.grants (ho7.grants.below (below_in b7r hS)) rfl rfl (by omega) (Below.size hS) ?_
              intro v2 wB ho2 hg2
              have hSB : Below wr.heap.size wr wB := Below.grown hS hg2 (Below.size hS) (fun kk e => (World.ownsRow.lt ho1 kk e).1)
              have ho3 : wB.ownsRow wr.heap.size 50 3 v2 (s.grants ++ o.grants).length ((s.grants ++ o.grants).flatMap Gr.cs) := by
                rw [List.length_append, List.flatMap_append, HS.out.grants.1, ho7.grants.1]
                simpa using ho2
              obtain ⟨A2, c2, rfl, hrow, -⟩ := own_rowG ho3 (fun g hg => by
                rcases List.mem_append.1 hg with h | h
                · exact HS.out.grants.2.1 g h
                · exact ho7.grants.2.1 g h)
              have hgl : (s.grants ++ o.grants).length ≤ 20000 := by
                rw [List.length_append, HS.out.grants.1, ho7.grants.1]; omega
              obtain ⟨G, hG⟩ : ∃ G, s.grants ++ o.grants = G := ⟨_, rfl⟩
              rw [hG] at hrow hgl ⊢
              obtain ⟨m, hm⟩ : ∃ m, G.length = m := ⟨_, rfl⟩
              rw [hm] at hrow hgl ⊢
              go_simp
              refine hK.out _ _ hSB (fun hS => ?_)
              clear hK K hSB hg2 ho1 ho2 ho3 hG
              try simp only [Act.put, List.setIfInBounds_toArray, List.set_cons_zero, List.set_cons_succ]
              refine take_at (i := 7) (v := ?_) rfl rfl (by kernel_rfl) (by kernel_rfl) (by kernel_rfl) (fun _ _ _ h => h) (by rfl) hS ?_ ?_
              rotate_left
              · intro w' hw
                have hw : Below _ _ _ := hw
                go_simp
                try with_reducible rfl
              try simp only [List.setIfInBounds_toArray, List.set_cons_zero, List.set_cons_succ]

              refine wpAnyH_done (by kernel_rfl) ?_ _
              have aSB := aSr.below hS aSr.lt
              have aTB := aTr.below hS aTr.lt
              have aOB := aOr.below hS aOr.lt
              have bB := below_in br hS
              have b7B := below_in b7r hS
              clear hS aSr aTr aOr br b7r hwr s0 s1 s2 o0 o1 o2
              go_wp2_with fail
              go_loopw [94] (fun iv wr => ∃ (k : Nat), k ≤ m ∧ iv = .int .i64 k ∧ At wr w.heap.size 25 #[.int .i64 s.ver, .slice s.tA s.tn s.tcap, .slice s.gA s.gn s.gcap] ∧ At wr (w.heap.size + 1) 34 st.cells ∧ At wr w5.heap.size 25 #[.int .i64 o.ver, .slice o.tA o.tn o.tcap, .slice o.gA o.gn o.gcap] ∧ Below w.heap.size w wr ∧ Below w7.heap.size w7 wr ∧ Below wB.heap.size wB wr) (fun iv _ => m - (intOf iv).toNat)
              case atStart => exact ⟨0, by omega, rfl, aSB, aTB, aOB, bB, b7B, Below.refl _ _⟩
              case round =>
                obtain ⟨k, hk, rfl, aSr, aTr, aOr, br, b7r, bBr⟩ := hrel
                clear aSB aTB aOB bB b7B
                obtain ⟨s0, s1, s2⟩ := aSr.tri0
                obtain ⟨o0, o1, o2⟩ := aOr.tri0
                by_cases hlt : k < m
                · obtain ⟨bb, off, hgA, hbl, hcell⟩ := hrow.2.2 (by omega)
                  obtain ⟨c0, c1, c2⟩ := (hcell k hlt).keep fun i => bBr.cell (p := ⟨bb, i, none⟩) hbl
                  have hki : (k : Int) < (m : Int) := by omega
                  have hkl : k + 1 ≤ 20001 := by omega
                  subst hgA
                  obtain ⟨g, hg⟩ : ∃ g, G.getD k default = g := ⟨_, rfl⟩
                  rw [hg] at c0 c1 c2
                  clear hcell hg
                  have kG := below_box wr (.cells #[.int .i64 g.role, .string ⟨g.table.toArray⟩, .int .i64 g.bits] 50)
                  have aX := At.fresh wr 50 #[.int .i64 g.role, .string ⟨g.table.toArray⟩, .int .i64 g.bits]
                  have aST := aSr.below kG aSr.lt
                  have aTT := aTr.below kG aTr.lt
                  have aOT := aOr.below kG aOr.lt
                  have bT := below_in br kG
                  have b7T := below_in b7r kG
                  have bBT := below_in bBr kG
                  have hbi := HSt.out.bits g.role g.table
                  have hB1 := fun w' (b : Below (wr.alloc (.cells #[.int .i64 g.role, .string ⟨g.table.toArray⟩, .int .i64 g.bits] 50)).heap.size (wr.alloc (.cells #[.int .i64 g.role, .string ⟨g.table.toArray⟩, .int .i64 g.bits] 50)) w') => rbits_any s.gA s.gn s.gcap s.grants g.role g.table w' (HS.out.grants.below (below_in bT b)) HS.out.gmax
                  have hB2 := fun w' (b : Below (wr.alloc (.cells #[.int .i64 g.role, .string ⟨g.table.toArray⟩, .int .i64 g.bits] 50)).heap.size (wr.alloc (.cells #[.int .i64 g.role, .string ⟨g.table.toArray⟩, .int .i64 g.bits] 50)) w') => rbits_any o.gA o.gn o.gcap o.grants g.role g.table w' (ho7.grants.below (below_in b7T b)) ho7.gmax
                  obtain ⟨wT, hwT⟩ : ∃ wT, wr.alloc (.cells #[.int .i64 g.role, .string ⟨g.table.toArray⟩, .int .i64 g.bits] 50) = wT := ⟨_, rfl⟩
                  rw [hwT] at aX aST aTT aOT bT b7T bBT hB1 hB2
                  have HWT := Lib.hid hwT
                  have HSC : Hid (∀ w', Below wT.heap.size wT w' → w'.cell? ⟨w.heap.size, 0, none⟩ = some (.int .i64 s.ver) ∧ w'.cell? ⟨w.heap.size, 1, none⟩ = some (.slice s.tA s.tn s.tcap) ∧ w'.cell? ⟨w.heap.size, 2, none⟩ = some (.slice s.gA s.gn s.gcap)) := by show ∀ _, _; exact fun w' b => (aST.below b aST.lt).tri0
                  have HOC : Hid (∀ w', Below wT.heap.size wT w' → w'.cell? ⟨w5.heap.size, 0, none⟩ = some (.int .i64 o.ver) ∧ w'.cell? ⟨w5.heap.size, 1, none⟩ = some (.slice o.tA o.tn o.tcap) ∧ w'.cell? ⟨w5.heap.size, 2, none⟩ = some (.slice o.gA o.gn o.gcap)) := by show ∀ _, _; exact fun w' b => (aOT.below b aOT.lt).tri0
                  have HTC : Hid (∀ w', Below wT.heap.size wT w' → w'.cell? ⟨wr.heap.size, 0, none⟩ = some (.int .i64 g.role) ∧ w'.cell? ⟨wr.heap.size, 1, none⟩ = some (.string ⟨g.table.toArray⟩) ∧ w'.cell? ⟨wr.heap.size, 2, none⟩ = some (.int .i64 g.bits)) := by show ∀ _, _; exact fun w' b => (aX.below b aX.lt).tri0
                  clear hwT
                  by_cases egt : g.table = X
                  · have q1 : (g.table == X) = true := by simp [egt]
                    clear hbi hB1 hB2 egt
                    go_wp2_with fail
                    rw [HWT.out]
                    refine wp_region_held_drew (S := fun w' => Below wT.heap.size wT w') (by kernel_rfl) (show Below wT.heap.size wT wT.drew from (Below.refl _ _).drew) (fun hS => ?_)
                    refine take_at (i := 0) (v := ?_) rfl rfl (by kernel_rfl) (by kernel_rfl) (by kernel_rfl) (fun _ _ _ h => h) (by rfl) hS ?_ ?_
                    rotate_left
                    · intro w' hw
                      have hw : Below _ _ _ := hw
                      go_simp
                      try with_reducible rfl
                    try simp only [List.setIfInBounds_toArray, List.set_cons_zero, List.set_cons_succ]
                    refine take_at (i := 1) (v := ?_) rfl rfl (by kernel_rfl) (by kernel_rfl) (by kernel_rfl) (fun _ _ _ h => h) (by rfl) hS ?_ ?_
                    rotate_left
                    · intro w' hw
                      have hw : Below _ _ _ := hw
                      obtain ⟨t0, t1, t2⟩ := HTC.out w' hw
                      go_simp
                      try with_reducible rfl
                    try simp only [List.setIfInBounds_toArray, List.set_cons_zero, List.set_cons_succ]
                    refine take_at (i := 2) (v := ?_) rfl rfl (by kernel_rfl) (by kernel_rfl) (by kernel_rfl) (fun _ _ _ h => h) (by rfl) hS ?_ ?_
                    rotate_left
                    · intro w' hw
                      have hw : Below _ _ _ := hw
                      go_simp
                      try with_reducible rfl
                    try simp only [List.setIfInBounds_toArray, List.set_cons_zero, List.set_cons_succ]
                    refine take_at (i := 3) (v := ?_) rfl rfl (by kernel_rfl) (by kernel_rfl) (by kernel_rfl) (fun _ _ _ h => h) (by rfl) hS ?_ ?_
                    rotate_left
                    · intro w' hw
                      have hw : Below _ _ _ := hw
                      go_simp
                      try with_reducible rfl
                    try simp only [List.setIfInBounds_toArray, List.set_cons_zero, List.set_cons_succ]
                    refine take_at (i := 4) (v := ?_) rfl rfl (by kernel_rfl) (by kernel_rfl) (by kernel_rfl) (fun _ _ _ h => h) (by rfl) hS ?_ ?_
                    rotate_left
                    · intro w' hw
                      have hw : Below _ _ _ := hw
                      go_simp
                      try with_reducible rfl
                    try simp only [List.setIfInBounds_toArray, List.set_cons_zero, List.set_cons_succ]
                    refine skip_at (i := 5) rfl rfl (by kernel_rfl) (by kernel_rfl) (by kernel_rfl) (fun _ _ _ h => h) (by rfl) hS ?_
                    try simp only [List.setIfInBounds_toArray, List.set_cons_zero, List.set_cons_succ]
                    refine skip_at (i := 6) rfl rfl (by kernel_rfl) (by kernel_rfl) (by kernel_rfl) (fun _ _ _ h => h) (by rfl) hS ?_
                    try simp only [List.setIfInBounds_toArray, List.set_cons_zero, List.set_cons_succ]
                    refine skip_at (i := 7) rfl rfl (by kernel_rfl) (by kernel_rfl) (by kernel_rfl) (fun _ _ _ h => h) (by rfl) hS ?_
                    try simp only [List.setIfInBounds_toArray, List.set_cons_zero, List.set_cons_succ]
                    refine skip_at (i := 8) rfl rfl (by kernel_rfl) (by kernel_rfl) (by kernel_rfl) (fun _ _ _ h => h) (by rfl) hS ?_
                    try simp only [List.setIfInBounds_toArray, List.set_cons_zero, List.set_cons_succ]
                    refine skip_at (i := 9) rfl rfl (by kernel_rfl) (by kernel_rfl) (by kernel_rfl) (fun _ _ _ h => h) (by rfl) hS ?_
                    try simp only [List.setIfInBounds_toArray, List.set_cons_zero, List.set_cons_succ]
                    refine skip_at (i := 10) rfl rfl (by kernel_rfl) (by kernel_rfl) (by kernel_rfl) (fun _ _ _ h => h) (by rfl) hS ?_
                    try simp only [List.setIfInBounds_toArray, List.set_cons_zero, List.set_cons_succ]
                    refine skip_at (i := 12) rfl rfl (by kernel_rfl) (by kernel_rfl) (by kernel_rfl) (fun _ _ _ h => h) (by rfl) hS ?_
                    try simp only [List.setIfInBounds_toArray, List.set_cons_zero, List.set_cons_succ]
                    refine skip_at (i := 13) rfl rfl (by kernel_rfl) (by kernel_rfl) (by kernel_rfl) (fun _ _ _ h => h) (by rfl) hS ?_
                    try simp only [List.setIfInBounds_toArray, List.set_cons_zero, List.set_cons_succ]
                    refine skip_at (i := 14) rfl rfl (by kernel_rfl) (by kernel_rfl) (by kernel_rfl) (fun _ _ _ h => h) (by rfl) hS ?_
                    try simp only [List.setIfInBounds_toArray, List.set_cons_zero, List.set_cons_succ]
                    refine skip_at (i := 15) rfl rfl (by kernel_rfl) (by kernel_rfl) (by kernel_rfl) (fun _ _ _ h => h) (by rfl) hS ?_
                    try simp only [List.setIfInBounds_toArray, List.set_cons_zero, List.set_cons_succ]
                    refine skip_at (i := 16) rfl rfl (by kernel_rfl) (by kernel_rfl) (by kernel_rfl) (fun _ _ _ h => h) (by rfl) hS ?_
                    try simp only [List.setIfInBounds_toArray, List.set_cons_zero, List.set_cons_succ]
                    refine skip_at (i := 17) rfl rfl (by kernel_rfl) (by kernel_rfl) (by kernel_rfl) (fun _ _ _ h => h) (by rfl) hS ?_
                    try simp only [List.setIfInBounds_toArray, List.set_cons_zero, List.set_cons_succ]
                    refine skip_only (i := 11) rfl (by kernel_rfl) (by rfl) hS ?_
                    try simp only [Act.put, List.setIfInBounds_toArray, List.set_cons_zero, List.set_cons_succ]
                    refine skip_only (i := 18) rfl (by kernel_rfl) (by rfl) hS ?_
                    try simp only [Act.put, List.setIfInBounds_toArray, List.set_cons_zero, List.set_cons_succ]
                    refine skip_at (i := 19) rfl rfl (by kernel_rfl) (by kernel_rfl) (by kernel_rfl) (fun _ _ _ h => h) (by rfl) hS ?_
                    try simp only [List.setIfInBounds_toArray, List.set_cons_zero, List.set_cons_succ]
                    refine take_at (i := 20) (v := ?_) rfl rfl (by kernel_rfl) (by kernel_rfl) (by kernel_rfl) (fun _ _ _ h => h) (by rfl) hS ?_ ?_
                    rotate_left
                    · intro w' hw
                      have hw : Below _ _ _ := hw
                      go_simp
                      try with_reducible rfl
                    try simp only [List.setIfInBounds_toArray, List.set_cons_zero, List.set_cons_succ]
                    refine wpAnyH_done (by kernel_rfl) ?_ _
                    go_wp2_with fail
                    exact ⟨⟨k + 1, by omega, by go_num, aST.below hS aST.lt, aTT.below hS aTT.lt, aOT.below hS aOT.lt, below_in bT hS, below_in b7T hS, below_in bBT hS⟩, by simp [intOf]; omega⟩
                  · have q1 : (g.table == X) = false := by simp [egt]
                    have hbe := hbi egt
                    rw [← hbe] at hB2
                    generalize bitsG g.role g.table s.grants = bg at *
                    clear hbi hbe egt
                    go_wp2_with fail
                    rw [HWT.out]
                    refine wp_region_held_drew (S := fun w' => Below wT.heap.size wT w') (by kernel_rfl) (show Below wT.heap.size wT wT.drew from (Below.refl _ _).drew) (fun hS => ?_)
                    refine take_at (i := 0) (v := ?_) rfl rfl (by kernel_rfl) (by kernel_rfl) (by kernel_rfl) (fun _ _ _ h => h) (by rfl) hS ?_ ?_
                    rotate_left
                    · intro w' hw
                      have hw : Below _ _ _ := hw
                      go_simp
                      try with_reducible rfl
                    try simp only [List.setIfInBounds_toArray, List.set_cons_zero, List.set_cons_succ]
                    refine take_at (i := 1) (v := ?_) rfl rfl (by kernel_rfl) (by kernel_rfl) (by kernel_rfl) (fun _ _ _ h => h) (by rfl) hS ?_ ?_
                    rotate_left
                    · intro w' hw
                      have hw : Below _ _ _ := hw
                      obtain ⟨t0, t1, t2⟩ := HTC.out w' hw
                      go_simp
                      try with_reducible rfl
                    try simp only [List.setIfInBounds_toArray, List.set_cons_zero, List.set_cons_succ]
                    refine take_at (i := 2) (v := ?_) rfl rfl (by kernel_rfl) (by kernel_rfl) (by kernel_rfl) (fun _ _ _ h => h) (by rfl) hS ?_ ?_
                    rotate_left
                    · intro w' hw
                      have hw : Below _ _ _ := hw
                      go_simp
                      try with_reducible rfl
                    try simp only [List.setIfInBounds_toArray, List.set_cons_zero, List.set_cons_succ]
                    refine take_at (i := 3) (v := ?_) rfl rfl (by kernel_rfl) (by kernel_rfl) (by kernel_rfl) (fun _ _ _ h => h) (by rfl) hS ?_ ?_
                    rotate_left
                    · intro w' hw
                      have hw : Below _ _ _ := hw
                      go_simp
                      try with_reducible rfl
                    try simp only [List.setIfInBounds_toArray, List.set_cons_zero, List.set_cons_succ]
                    refine take_at (i := 4) (v := ?_) rfl rfl (by kernel_rfl) (by kernel_rfl) (by kernel_rfl) (fun _ _ _ h => h) (by rfl) hS ?_ ?_
                    rotate_left
                    · intro w' hw
                      have hw : Below _ _ _ := hw
                      go_simp
                      try with_reducible rfl
                    try simp only [List.setIfInBounds_toArray, List.set_cons_zero, List.set_cons_succ]
                    refine take_at (i := 5) (v := ?_) rfl rfl (by kernel_rfl) (by kernel_rfl) (by kernel_rfl) (fun _ _ _ h => h) (by rfl) hS ?_ ?_
                    rotate_left
                    · intro w' hw
                      have hw : Below _ _ _ := hw
                      go_simp
                      try with_reducible rfl
                    try simp only [List.setIfInBounds_toArray, List.set_cons_zero, List.set_cons_succ]
                    refine take_at (i := 6) (v := ?_) rfl rfl (by kernel_rfl) (by kernel_rfl) (by kernel_rfl) (fun _ _ _ h => h) (by rfl) hS ?_ ?_
                    rotate_left
                    · intro w' hw
                      have hw : Below _ _ _ := hw
                      obtain ⟨q0, q1', q2⟩ := HSC.out w' hw
                      go_simp
                      try with_reducible rfl
                    try simp only [List.setIfInBounds_toArray, List.set_cons_zero, List.set_cons_succ]
                    refine take_at (i := 7) (v := ?_) rfl rfl (by kernel_rfl) (by kernel_rfl) (by kernel_rfl) (fun _ _ _ h => h) (by rfl) hS ?_ ?_
                    rotate_left
                    · intro w' hw
                      have hw : Below _ _ _ := hw
                      go_simp
                      try with_reducible rfl
                    try simp only [List.setIfInBounds_toArray, List.set_cons_zero, List.set_cons_succ]
                    refine take_at (i := 8) (v := ?_) rfl rfl (by kernel_rfl) (by kernel_rfl) (by kernel_rfl) (fun _ _ _ h => h) (by rfl) hS ?_ ?_
                    rotate_left
                    · intro w' hw
                      have hw : Below _ _ _ := hw
                      obtain ⟨t0, t1, t2⟩ := HTC.out w' hw
                      go_simp
                      try with_reducible rfl
                    try simp only [List.setIfInBounds_toArray, List.set_cons_zero, List.set_cons_succ]
                    refine take_at (i := 9) (v := ?_) rfl rfl (by kernel_rfl) (by kernel_rfl) (by kernel_rfl) (fun _ _ _ h => h) (by rfl) hS ?_ ?_
                    rotate_left
                    · intro w' hw
                      have hw : Below _ _ _ := hw
                      go_simp
                      try with_reducible rfl
                    try simp only [List.setIfInBounds_toArray, List.set_cons_zero, List.set_cons_succ]
                    refine take_at (i := 10) (v := ?_) rfl rfl (by kernel_rfl) (by kernel_rfl) (by kernel_rfl) (fun _ _ _ h => h) (by rfl) hS ?_ ?_
                    rotate_left
                    · intro w' hw
                      have hw : Below _ _ _ := hw
                      obtain ⟨t0, t1, t2⟩ := HTC.out w' hw
                      go_simp
                      try with_reducible rfl
                    try simp only [List.setIfInBounds_toArray, List.set_cons_zero, List.set_cons_succ]
                    refine take_at (i := 12) (v := ?_) rfl rfl (by kernel_rfl) (by kernel_rfl) (by kernel_rfl) (fun _ _ _ h => h) (by rfl) hS ?_ ?_
                    rotate_left
                    · intro w' hw
                      have hw : Below _ _ _ := hw
                      go_simp
                      try with_reducible rfl
                    try simp only [List.setIfInBounds_toArray, List.set_cons_zero, List.set_cons_succ]
                    refine take_at (i := 13) (v := ?_) rfl rfl (by kernel_rfl) (by kernel_rfl) (by kernel_rfl) (fun _ _ _ h => h) (by rfl) hS ?_ ?_
                    rotate_left
                    · intro w' hw
                      have hw : Below _ _ _ := hw
                      obtain ⟨q0, q1', q2⟩ := HOC.out w' hw
                      go_simp
                      try with_reducible rfl
                    try simp only [List.setIfInBounds_toArray, List.set_cons_zero, List.set_cons_succ]
                    refine take_at (i := 14) (v := ?_) rfl rfl (by kernel_rfl) (by kernel_rfl) (by kernel_rfl) (fun _ _ _ h => h) (by rfl) hS ?_ ?_
                    rotate_left
                    · intro w' hw
                      have hw : Below _ _ _ := hw
                      go_simp
                      try with_reducible rfl
                    try simp only [List.setIfInBounds_toArray, List.set_cons_zero, List.set_cons_succ]
                    refine take_at (i := 15) (v := ?_) rfl rfl (by kernel_rfl) (by kernel_rfl) (by kernel_rfl) (fun _ _ _ h => h) (by rfl) hS ?_ ?_
                    rotate_left
                    · intro w' hw
                      have hw : Below _ _ _ := hw
                      obtain ⟨t0, t1, t2⟩ := HTC.out w' hw
                      go_simp
                      try with_reducible rfl
                    try simp only [List.setIfInBounds_toArray, List.set_cons_zero, List.set_cons_succ]
                    refine take_at (i := 16) (v := ?_) rfl rfl (by kernel_rfl) (by kernel_rfl) (by kernel_rfl) (fun _ _ _ h => h) (by rfl) hS ?_ ?_
                    rotate_left
                    · intro w' hw
                      have hw : Below _ _ _ := hw
                      go_simp
                      try with_reducible rfl
                    try simp only [List.setIfInBounds_toArray, List.set_cons_zero, List.set_cons_succ]
                    refine take_at (i := 17) (v := ?_) rfl rfl (by kernel_rfl) (by kernel_rfl) (by kernel_rfl) (fun _ _ _ h => h) (by rfl) hS ?_ ?_
                    rotate_left
                    · intro w' hw
                      have hw : Below _ _ _ := hw
                      obtain ⟨t0, t1, t2⟩ := HTC.out w' hw
                      go_simp
                      try with_reducible rfl
                    try simp only [List.setIfInBounds_toArray, List.set_cons_zero, List.set_cons_succ]
                    refine only_at (i := 11) rfl (by kernel_rfl) (by rfl) (fun K hK => ?_)
                    go_simp
                    refine (hB1 _ hS).mono ?_
                    rintro e w8 ⟨rfl, k8⟩
                    have hS8 : Below wT.heap.size wT w8 := below_in hS k8
                    go_simp
                    refine hK.out _ _ hS8 (fun hS => ?_)
                    clear hK K hS8
                    try simp only [Act.put, List.setIfInBounds_toArray, List.set_cons_zero, List.set_cons_succ]
                    refine only_at (i := 18) rfl (by kernel_rfl) (by rfl) (fun K hK => ?_)
                    go_simp
                    refine (hB2 _ hS).mono ?_
                    rintro e w8 ⟨rfl, k8⟩
                    have hS8 : Below wT.heap.size wT w8 := below_in hS k8
                    go_simp
                    refine hK.out _ _ hS8 (fun hS => ?_)
                    clear hK K hS8
                    try simp only [Act.put, List.setIfInBounds_toArray, List.set_cons_zero, List.set_cons_succ]
                    refine take_at (i := 19) (v := ?_) rfl rfl (by kernel_rfl) (by kernel_rfl) (by kernel_rfl) (fun _ _ _ h => h) (by rfl) hS ?_ ?_
                    rotate_left
                    · intro w' hw
                      have hw : Below _ _ _ := hw
                      go_simp
                      try with_reducible rfl
                    try simp only [List.setIfInBounds_toArray, List.set_cons_zero, List.set_cons_succ]
                    refine take_at (i := 20) (v := ?_) rfl rfl (by kernel_rfl) (by kernel_rfl) (by kernel_rfl) (fun _ _ _ h => h) (by rfl) hS ?_ ?_
                    rotate_left
                    · intro w' hw
                      have hw : Below _ _ _ := hw
                      go_simp
                      try with_reducible rfl
                    try simp only [List.setIfInBounds_toArray, List.set_cons_zero, List.set_cons_succ]
                    refine wpAnyH_done (by kernel_rfl) ?_ _
                    go_wp2_with fail
                    exact ⟨⟨k + 1, by omega, by go_num, aST.below hS aST.lt, aTT.below hS aTT.lt, aOT.below hS aOT.lt, below_in bT hS, below_in b7T hS, below_in bBT hS⟩, by simp [intOf]; omega⟩
                · obtain rfl : k = m := by omega
                  clear hrow bBr
                  have d0 := aTr.stmt.c0
                  rcases hps with rfl | ⟨e6, hp6⟩
                  · go_wp2_with fail
                    go_ret
                    exact ⟨by simp, br⟩
                  · have hk6' : (st.kind == 6) = true := by simp [e6]
                    have hpw : IntKind.i64.wrap ((p : Int) + 1) = (o.tn : Int) := by rw [IntKind.wrap_i64]; omega
                    have hpe : ((p : Int) == (o.tn : Int)) = false := by simp; omega
                    have hpe2 : (p == o.tn) = false := by simp; omega
                    clear e6 hp6
                    first
                    | exact absurd hk6 (by rw [hk6']; decide)
                    | (go_wp2_with fail
                       go_ret
                       exact ⟨by simp, br⟩)
      · have her : (er != 0) = true := by simpa using he
        have HO : Hid (o = noS) := by
          show o = noS
          exact app_none (hF HWs.out.2.2.1) he
        have hSm := sameS_any o noS w7 ho7 (in_noS w7) (by rw [HO.out]; exact simS_tree (in_noS w7) (in_noS w7) rfl)
        unfold Sc.val at hSm
        clear hF HPr
        go_wp2_with fail
        refine hSm.mono ?_
        rintro e w8 ⟨rfl, k8⟩
        have bb8 := below_in bb7 k8
        go_wp2_with fail
        go_ret
        exact ⟨rfl, bb8⟩
end Go.Proofs.YtnhalfdddcjicaaGreat

namespace Go.Proofs.YtnhalfdddcjicaaGreat.bulks

theorem bound {H : Type} {l : List (DataW H)} (hk : Rows.uptoSmall H l = true) : Rows.uptoBulkAll l ≤ 1048576 := of_decide_eq_true hk

theorem letters {H : Type} : ∀ ss : List (List UInt8), ss.flatten.length + ss.length ≤ Rows.uptoBulkAll (ss.map fun s => DataW.lit (H := H) (.string s))
  | [] => by simp
  | s :: r => by
    have := letters (H := H) r
    simp only [List.map_cons, Rows.uptoBulkAll, Rows.uptoBulk, List.flatten_cons, List.length_append, List.length_cons]
    omega

theorem strs_le {H : Type} {d : DataW H} {ss : List (List UInt8)} (hB : Rows.uptoBulk d ≤ 1048576) (u : d = .nil ∧ ss = [] ∨ ∃ sp, d = .slice (ss.map fun s => .lit (.string s)) sp) : ss.flatten.length ≤ 1048576 := by
  rcases u with ⟨_, rfl⟩ | ⟨sp, rfl⟩
  · simp
  · have h1 := letters (H := H) ss
    simp only [Rows.uptoBulk] at hB
    omega
theorem str_le {H : Type} {l : List UInt8} (hB : Rows.uptoBulk (DataW.lit (H := H) (.string l)) ≤ 1048576) : l.length ≤ 1048576 := by
  simp only [Rows.uptoBulk] at hB
  omega
end Go.Proofs.YtnhalfdddcjicaaGreat.bulks
