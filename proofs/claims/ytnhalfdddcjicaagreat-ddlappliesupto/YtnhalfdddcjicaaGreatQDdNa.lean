/- The walk of the reference's apply: a table that is made. -/
import Derived.Test.YtnhalfdddcjicaaGreatQDdN
namespace Go.Proofs.YtnhalfdddcjicaaGreat
open Go.RowKit

set_option maxRecDepth 100000 in
set_option maxHeartbeats 12800000 in
theorem rapply6_any (s : Sc) (role : Int) (st : St) (w : World) (hs : InS w s) (hst : InSt w st) (hrole : I64 role) (hwd : wtT st.def_ ≤ 1048576) (htn : s.tn ≤ 100000) (_hsg : SortedG s.grants) (hr : 0 ≤ role ∧ role ≤ 7) (k6 : st.kind = 6) :
    Calls Tryz.prog 25 #[s.val, .int .i64 role, st.val] w fun e w' => RpE s role st e w' ∧ Below w.heap.size w w' := by
  have HZ : Hid (∀ er w', er ≠ 0 → (∀ X, AppT s role st er X) → RpE s role st (.returned (.tuple #[.agg #[.int .i64 0, .slice none 0 0, .slice none 0 0], .int .i64 er])) w') := by
    show ∀ _, _
    exact fun er w' h1 h2 => ⟨noS, er, rfl, in_noS w', .inl ⟨h1, rfl, h2⟩⟩
  have HF : Hid (∀ o w', InS w' o → AppT s role st 0 (treeS o) → RpE s role st (.returned (.tuple #[o.val, .int .i64 0])) w') := by
    show ∀ _, _
    exact fun o w' h1 h2 => ⟨o, 0, rfl, h1, .inr ⟨rfl, h2⟩⟩
  have b1 := below_box w (.cells #[.int .i64 s.ver, .slice s.tA s.tn s.tcap, .slice s.gA s.gn s.gcap] 25)
  have aS := At.fresh w 25 #[.int .i64 s.ver, .slice s.tA s.tn s.tcap, .slice s.gA s.gn s.gcap]
  obtain ⟨W1, hW1⟩ : ∃ W1, w.alloc (.cells #[.int .i64 s.ver, .slice s.tA s.tn s.tcap, .slice s.gA s.gn s.gcap] 25) = W1 := ⟨_, rfl⟩
  rw [hW1] at b1 aS
  have hz1 : W1.heap.size = w.heap.size + 1 := by rw [← hW1]; simp
  have b2 := below_box W1 (.cells st.cells 34)
  have aT := At.fresh W1 34 st.cells
  obtain ⟨W2, hW2⟩ : ∃ W2, W1.alloc (.cells st.cells 34) = W2 := ⟨_, rfl⟩
  rw [hW2] at b2 aT
  have hz2 : W2.heap.size = w.heap.size + 1 + 1 := by rw [← hW2]; simp [hz1]
  have b3 := below_box W2 (.cells #[.int .i64 0, .slice none 0 0, .slice none 0 0] 25)
  have aR := At.fresh W2 25 #[.int .i64 0, .slice none 0 0, .slice none 0 0]
  obtain ⟨W3, hW3⟩ : ∃ W3, W2.alloc (.cells #[.int .i64 0, .slice none 0 0, .slice none 0 0] 25) = W3 := ⟨_, rfl⟩
  rw [hW3] at b3 aR
  have hz3 : W3.heap.size = w.heap.size + 1 + 1 + 1 := by rw [← hW3]; simp [hz2]
  have aS3 := (aS.below b2 aS.lt).below b3 (aS.below b2 aS.lt).lt
  have aT3 := aT.below b3 aT.lt
  have hb3 := below_in (below_in b1 b2) b3
  rw [hz1] at aT3
  rw [hz2] at aR
  have hWc := Lib.hid (show ((w.alloc (.cells #[.int .i64 s.ver, .slice s.tA s.tn s.tcap, .slice s.gA s.gn s.gcap] 25)).alloc (.cells st.cells 34)).alloc (.cells #[.int .i64 0, .slice none 0 0, .slice none 0 0] 25) = W3 by rw [hW1, hW2, hW3])
  clear hW1 hW2 hW3 aS aT b1 b2 b3
  obtain ⟨s0, s1, s2⟩ := aS3.tri0
  obtain ⟨r0, r1, r2⟩ := aR.tri0
  have y0 := aR.unfrozen 0
  have y1 := aR.unfrozen 1
  have y2 := aR.unfrozen 2
  have hfin0 := fun x y z => below_set3 (g := w.heap.size + 1 + 1) hb3 (by omega) x y z
  have HVAL : Hid (st.val = .agg st.cells) := rfl
  unfold Sc.val
  rw [HVAL.out]
  have hvI := i64_next s.ver
  have hvn : IntKind.i64.wrap (s.ver + 1) = vnext s.ver := rfl
  obtain ⟨vn, hvn2⟩ : ∃ vn, vnext s.ver = vn := ⟨_, rfl⟩
  rw [hvn2] at hvn hvI
  have HVN := Lib.hid hvn2
  clear hvn2 s0 s1 s2 r0 r1 r2 y0 y1 y2 hfin0
  have b4 := below_box W3 (.cells #[.int .i64 vn, .slice none 0 0, .slice none 0 0] 25)
  have aO := At.fresh W3 25 #[.int .i64 vn, .slice none 0 0, .slice none 0 0]
  obtain ⟨W4, hW4⟩ : ∃ W4, W3.alloc (.cells #[.int .i64 vn, .slice none 0 0, .slice none 0 0] 25) = W4 := ⟨_, rfl⟩
  rw [hW4] at b4 aO
  have hz4 : W4.heap.size = w.heap.size + 1 + 1 + 1 + 1 := by rw [← hW4]; simp [hz3]
  have aS4 := aS3.below b4 aS3.lt
  have aT4 := aT3.below b4 aT3.lt
  have aR4 := aR.below b4 aR.lt
  have hb4 := below_in hb3 b4
  rw [hz3] at aO
  have hkc := aT4.stmt.c0
  have htc := aT4.stmt.c1
  obtain ⟨-, -, -, -, -, -, -, -, -, -, -, -, -, d13, d14, d15, d16, -, -⟩ := aT4.stmt
  obtain ⟨s0, s1, s2⟩ := aS4.tri0
  obtain ⟨s0', -, -⟩ := aS3.tri0
  obtain ⟨p0, p1, p2⟩ := aO.tri0
  have hr0 : ¬ role < 0 := by omega
  have hr7 : ¬ 7 < role := by omega
  have e3 := hWc.out
  clear hWc
  subst e3
  rw [k6] at hkc
  have b5 := below_box W4 (.cells #[.string ⟨st.def_.name.toArray⟩, .int .i64 role, .slice st.def_.cA st.def_.cn st.def_.ccap, .slice st.def_.eA st.def_.en st.def_.ecap] 32)
  have hz5 : (W4.alloc (.cells #[.string ⟨st.def_.name.toArray⟩, .int .i64 role, .slice st.def_.cA st.def_.cn st.def_.ccap, .slice st.def_.eA st.def_.en st.def_.ecap] 32)).heap.size = W4.heap.size + 1 := by simp
  have aD := At.fresh W4 32 #[.string ⟨st.def_.name.toArray⟩, .int .i64 role, .slice st.def_.cA st.def_.cn st.def_.ccap, .slice st.def_.eA st.def_.en st.def_.ecap]
  rw [hz4] at aD
  have aS5 := aS4.below b5 aS4.lt
  have aR5 := aR4.below b5 aR4.lt
  have aO5 := aO.below b5 aO.lt
  have hb5 := below_in hb4 b5
  have hDO : ∀ w1, Below w.heap.size w w1 → InT w1 (st.def_.own role) := fun w1 b => by
    have := hst.def_.below b
    exact ⟨hrole, this.name, this.cmax, this.emax, this.cols, this.chk⟩
  have hCr := rcreate_any s role st.def_ _ (hs.below hb5) (hDO _ hb5) hwd
  unfold Tb.val Sc.val at hCr
  simp only [Tb.own] at hCr
  obtain ⟨s0, s1, s2⟩ := aS5.tri0
  subst hW4
  clear b4 b5
  generalize st.cells = cs at *
  go_enter Tryz.func25, Tryz.ntmps25
  go_wp2_with fail
  refine hCr.mono ?_
  rintro e w6 ⟨⟨er, rfl, hE⟩, b6⟩
  have hb6 := below_in hb5 b6
  have aS6 := aS5.below b6 aS5.lt
  have aR6 := aR5.below b6 aR5.lt
  have aO6 := aO5.below b6 aO5.lt
  have aD6 := aD.below b6 aD.lt
  have hz6 := b6.size
  clear hCr s0 s1 s2 aR aO aS3 aT3 aS4 aT4 aR4 aO5 aS5 aR5 aD hkc htc d13 d14 d15 d16 p0 p1 p2 hb3 hb4 hb5 b6 s0'
  by_cases her : er = 0
  · subst her
    obtain ⟨p0, p1, p2⟩ := aO6.tri0
    obtain ⟨u0, u1, u2⟩ := aS6.tri0
    go_wp2_with fail
    obtain ⟨i0, hi0, hz0, hzs, hzb⟩ := info_parts info_table
    refine wp_region_held_drew (S := fun w' => At w' w.heap.size 25 #[.int .i64 s.ver, .slice s.tA s.tn s.tcap, .slice s.gA s.gn s.gcap] ∧ At w' (w.heap.size + 1 + 1 + 1 + 1) 32 #[.string ⟨st.def_.name.toArray⟩, .int .i64 role, .slice st.def_.cA st.def_.cn st.def_.ccap, .slice st.def_.eA st.def_.en st.def_.ecap]) (by kernel_rfl) (show _ ∧ _ from ⟨aS6, aD6⟩) (fun hS => ?_)
    have dS : At w6.drew _ _ _ := aS6
    have dR : At w6.drew _ _ _ := aR6
    have dO : At w6.drew _ _ _ := aO6
    have dD : At w6.drew _ _ _ := aD6
    have hb6d := hb6.drew
    have hzd : w6.heap.size ≤ w6.drew.heap.size := Nat.le_refl _
    generalize w6.drew = WD at *
    refine take_at (i := 0) (v := ?_) rfl rfl (by kernel_rfl) (by kernel_rfl) (by kernel_rfl) (fun _ _ _ h => h) (by rfl) hS ?_ ?_
    rotate_left
    · intro w' hw
      obtain ⟨hw1, hw2⟩ := hw
      go_simp
      try with_reducible rfl
    try simp only [List.setIfInBounds_toArray, List.set_cons_zero, List.set_cons_succ]
    refine take_at (i := 2) (v := ?_) rfl rfl (by kernel_rfl) (by kernel_rfl) (by kernel_rfl) (fun _ _ _ h => h) (by rfl) hS ?_ ?_
    rotate_left
    · intro w' hw
      obtain ⟨hw1, hw2⟩ := hw
      go_simp
      try with_reducible rfl
    try simp only [List.setIfInBounds_toArray, List.set_cons_zero, List.set_cons_succ]
    refine take_at (i := 3) (v := ?_) rfl rfl (by kernel_rfl) (by kernel_rfl) (by kernel_rfl) (fun _ _ _ h => h) (by rfl) hS ?_ ?_
    rotate_left
    · intro w' hw
      obtain ⟨hw1, hw2⟩ := hw
      obtain ⟨q0, q1, q2⟩ := hw1.tri0
      go_simp
      try with_reducible rfl
    try simp only [List.setIfInBounds_toArray, List.set_cons_zero, List.set_cons_succ]
    refine take_at (i := 5) (v := ?_) rfl rfl (by kernel_rfl) (by kernel_rfl) (by kernel_rfl) (fun _ _ _ h => h) (by rfl) hS ?_ ?_
    rotate_left
    · intro w' hw
      obtain ⟨hw1, hw2⟩ := hw
      obtain ⟨q0, q1, q2, q3, -⟩ := hw2.four
      go_simp
      try with_reducible rfl
    try simp only [List.setIfInBounds_toArray, List.set_cons_zero, List.set_cons_succ]
    refine two_at (i := 1) (j := 6) rfl rfl (by kernel_rfl) (by rfl) (by rfl) (fun K hK => ?_) (fun K hK => ?_)
    · have m1 : World.cell? WD ⟨w.heap.size + 1 + 1 + 1, 1, none⟩ = some (.slice none 0 0) := At.cell dO 1
      go_simp
      refine hK.out _ _ hS (fun hS => ?_)
      clear hK K
      try simp only [Act.put, List.setIfInBounds_toArray, List.set_cons_zero, List.set_cons_succ]
      refine two_at (i := 4) (j := 6) rfl rfl (by kernel_rfl) (by rfl) (by rfl) (fun K hK => ?_) (fun K hK => ?_)
      · refine wp_append_rowT (.tmp 47) (.tmp 49) rfl (World.ownsRow_nil WD w6.heap.size 32 4) s.tA s.tn s.tcap s.tab (hs.tabs.below hb6d) rfl rfl (by omega) (by omega) ?_
        intro v1 wA ho1 hg1
        have hzA := hg1.size
        have hbA : Below w.heap.size w wA := Below.grown hb6d hg1 (by have := Below.size hb6d; exact this) (fun k e => by cases e)
        have aSA := At.grown dS hg1 (fun e => by cases e)
        have aRA := At.grown dR hg1 (fun e => by cases e)
        have aOA := At.grown dO hg1 (fun e => by cases e)
        have aDA := At.grown dD hg1 (fun e => by cases e)
        go_simp
        refine hK.out _ _ ⟨aSA, aDA⟩ (fun hS => ?_)
        clear hK K hg1
        try simp only [Act.put, List.setIfInBounds_toArray, List.set_cons_zero, List.set_cons_succ]
        refine only_at (i := 6) rfl (by kernel_rfl) (by rfl) (fun K hK => ?_)
        go_simp
        refine hK.out _ _ ⟨At.alloc aSA _, At.alloc aDA _⟩ (fun hS => ?_)
        clear hK K
        try simp only [Act.put, List.setIfInBounds_toArray, List.set_cons_zero, List.set_cons_succ]
        have hbB := Below.alloc hbA (Below.size hbA) (.cells #[.string ⟨st.def_.name.toArray⟩, .int .i64 role, .slice st.def_.cA st.def_.cn st.def_.ccap, .slice st.def_.eA st.def_.en st.def_.ecap] 32)
        have aSB := At.alloc aSA (.cells #[.string ⟨st.def_.name.toArray⟩, .int .i64 role, .slice st.def_.cA st.def_.cn st.def_.ccap, .slice st.def_.eA st.def_.en st.def_.ecap] 32)
        have aRB := At.alloc aRA (.cells #[.string ⟨st.def_.name.toArray⟩, .int .i64 role, .slice st.def_.cA st.def_.cn st.def_.ccap, .slice st.def_.eA st.def_.en st.def_.ecap] 32)
        have aOB := At.alloc aOA (.cells #[.string ⟨st.def_.name.toArray⟩, .int .i64 role, .slice st.def_.cA st.def_.cn st.def_.ccap, .slice st.def_.eA st.def_.en st.def_.ecap] 32)
        have aDB := At.alloc aDA (.cells #[.string ⟨st.def_.name.toArray⟩, .int .i64 role, .slice st.def_.cA st.def_.cn st.def_.ccap, .slice st.def_.eA st.def_.en st.def_.ecap] 32)
        have aXB := At.fresh wA 32 #[.string ⟨st.def_.name.toArray⟩, .int .i64 role, .slice st.def_.cA st.def_.cn st.def_.ccap, .slice st.def_.eA st.def_.en st.def_.ecap]
        have hzB : (World.alloc wA (.cells #[.string ⟨st.def_.name.toArray⟩, .int .i64 role, .slice st.def_.cA st.def_.cn st.def_.ccap, .slice st.def_.eA st.def_.en st.def_.ecap] 32)).heap.size = (World.heap wA).size + 1 := by simp
        have ho1B := World.ownsRow.alloc ho1 (.cells #[.string ⟨st.def_.name.toArray⟩, .int .i64 role, .slice st.def_.cA st.def_.cn st.def_.ccap, .slice st.def_.eA st.def_.en st.def_.ecap] 32)
        generalize hWB : World.alloc wA (.cells #[.string ⟨st.def_.name.toArray⟩, .int .i64 role, .slice st.def_.cA st.def_.cn st.def_.ccap, .slice st.def_.eA st.def_.en st.def_.ecap] 32) = wB at *
        clear hWB
        refine only_at (i := 7) rfl (by kernel_rfl) (by rfl) (fun K hK => ?_)
        refine wp_append_lies wB (.tmp 50) (.tmp 52) 22 rfl w6.heap.size 32 i0 _ 4 72 Tryz.underlying22 hi0 hz0 hzs hzb rfl (by omega) v1 (0 + s.tn) _ rfl ho1B ⟨wA.heap.size, 0, none⟩ 1 1 #[.string ⟨st.def_.name.toArray⟩, .int .i64 role, .slice st.def_.cA st.def_.cn st.def_.ccap, .slice st.def_.eA st.def_.en st.def_.ecap].toList rfl rfl (fun j u hu => by rw [add_plain, Nat.zero_add, At.cell aXB]; simpa using hu) (fun u hu => by simp at hu; rcases hu with rfl | rfl | rfl | rfl <;> rfl) (by omega) (by unfold maxLen; omega) (by omega) (by omega) _ rfl ?_
        intro g cap w8 ho8 hg8 hl8 hlt8
        have hown1 := fun k e => World.ownsRow.lt ho1B k e
        have aS8 := At.grown aSB hg8 (fun e => by have := (hown1 _ e.symm).1; omega)
        have aR8 := At.grown aRB hg8 (fun e => by have := (hown1 _ e.symm).1; omega)
        have aO8 := At.grown aOB hg8 (fun e => by have := (hown1 _ e.symm).1; omega)
        have aD8 := At.grown aDB hg8 (fun e => by have := (hown1 _ e.symm).1; omega)
        have hb8 := Below.grown hbB hg8 (Below.size hbB) (fun k e => by have := (hown1 k e).1; omega)
        have hz8 := hg8.size
        have hg8b : w6.heap.size ≤ g := by
          have := World.ownsRow.lt ho8 g rfl
          exact this.1
        go_simp
        refine hK.out _ _ ⟨aS8, aD8⟩ (fun hS => ?_)
        clear hK K hg8 hl8
        try simp only [Act.put, List.setIfInBounds_toArray, List.set_cons_zero, List.set_cons_succ]
        refine only_at (i := 8) rfl (by kernel_rfl) (by rfl) (fun K hK => ?_)
        go_simp
        refine hK.out _ _ hS (fun hS => ?_)
        clear hK K
        try simp only [Act.put, List.setIfInBounds_toArray, List.set_cons_zero, List.set_cons_succ]
        refine only_at (i := 9) rfl (by kernel_rfl) (by rfl) (fun K hK => ?_)
        have f1 : w8.cell? ⟨w.heap.size + 1 + 1 + 1, 1, none⟩ = some (.slice none 0 0) := aO8.cell 1
        have f2 := aO8.unfrozen 1
        have aS9 := aS8.elsewhere (p := ⟨w.heap.size + 1 + 1 + 1, 1, none⟩) (by simp; omega) (.slice (some ⟨g, 0, none⟩) (s.tn + 1) cap)
        have aR9 := aR8.elsewhere (p := ⟨w.heap.size + 1 + 1 + 1, 1, none⟩) (by simp) (.slice (some ⟨g, 0, none⟩) (s.tn + 1) cap)
        have aD9 := aD8.elsewhere (p := ⟨w.heap.size + 1 + 1 + 1, 1, none⟩) (by simp) (.slice (some ⟨g, 0, none⟩) (s.tn + 1) cap)
        have aO9 : At (w8.setCell ⟨w.heap.size + 1 + 1 + 1, 1, none⟩ (.slice (some ⟨g, 0, none⟩) (s.tn + 1) cap)) (w.heap.size + 1 + 1 + 1) 25 #[.int .i64 vn, .slice (some ⟨g, 0, none⟩) (s.tn + 1) cap, .slice none 0 0] := aO8.put 1 _
        have hb9 := hb8.setCell (p := ⟨w.heap.size + 1 + 1 + 1, 1, none⟩) (by show w.heap.size ≤ w.heap.size + 1 + 1 + 1; omega) (.slice (some ⟨g, 0, none⟩) (s.tn + 1) cap)
        rw [Nat.zero_add] at ho8
        go_simp
        refine hK.out _ _ ⟨aS9, aD9⟩ (fun hS => ?_)
        clear hK K
        try simp only [Act.put, List.setIfInBounds_toArray, List.set_cons_zero, List.set_cons_succ]
        refine wpAnyH_done (by kernel_rfl) ?_ _
        clear hS
        have hz9 : (w8.setCell ⟨w.heap.size + 1 + 1 + 1, 1, none⟩ (.slice (some ⟨g, 0, none⟩) (s.tn + 1) cap)).heap.size = w8.heap.size := by simp [World.setCell]
        have ho9 := own_block_keep ho8 (w' := w8.setCell ⟨w.heap.size + 1 + 1 + 1, 1, none⟩ (.slice (some ⟨g, 0, none⟩) (s.tn + 1) cap)) (fun b e => by
          obtain rfl : g = b := Option.some.inj e
          exact Below.heap_setCell _ _ _ _ (fun e : g = w.heap.size + 1 + 1 + 1 => by omega))
        generalize w8.setCell ⟨w.heap.size + 1 + 1 + 1, 1, none⟩ (.slice (some ⟨g, 0, none⟩) (s.tn + 1) cap) = W9 at *
        obtain ⟨n0, n1, n2⟩ := aS9.tri0
        obtain ⟨o0, o1, o2⟩ := aO9.tri0
        have of2 := aO9.unfrozen 2
        have aO10 : At (W9.setCell ⟨w.heap.size + 1 + 1 + 1, 2, none⟩ (.slice s.gA s.gn s.gcap)) (w.heap.size + 1 + 1 + 1) 25 #[.int .i64 vn, .slice (some ⟨g, 0, none⟩) (s.tn + 1) cap, .slice s.gA s.gn s.gcap] := aO9.put 2 _
        have aR10 := aR9.elsewhere (p := ⟨w.heap.size + 1 + 1 + 1, 2, none⟩) (by simp) (.slice s.gA s.gn s.gcap)
        have hb10 := hb9.setCell (p := ⟨w.heap.size + 1 + 1 + 1, 2, none⟩) (by show w.heap.size ≤ w.heap.size + 1 + 1 + 1; omega) (.slice s.gA s.gn s.gcap)
        obtain ⟨x0, x1, x2⟩ := aO10.tri0
        obtain ⟨r0, r1, r2⟩ := aR10.tri0
        have y0 := aR10.unfrozen 0
        have y1 := aR10.unfrozen 1
        have y2 := aR10.unfrozen 2
        have hfin := fun x y z => below_set3 (g := w.heap.size + 1 + 1) hb10 (by omega) x y z
        have HOF : Hid (∀ x y z, World.ownsRow ((((W9.setCell ⟨w.heap.size + 1 + 1 + 1, 2, none⟩ (.slice s.gA s.gn s.gcap)).setCell ⟨w.heap.size + 1 + 1, 0, none⟩ x).setCell ⟨w.heap.size + 1 + 1, 1, none⟩ y).setCell ⟨w.heap.size + 1 + 1, 2, none⟩ z) w6.heap.size 32 4 (.slice (some ⟨g, 0, none⟩) (s.tn + 1) cap) ((List.range s.tn).map s.tab ++ [st.def_.own role]).length (((List.range s.tn).map s.tab ++ [st.def_.own role]).flatMap Tb.cs)) := by
          show ∀ _, _
          intro x y z
          rw [List.length_append, List.length_map, List.length_range, List.flatMap_append]
          refine own_block_keep ho9 (fun b e => ?_)
          obtain rfl : g = b := Option.some.inj e
          exact (Below.heap_setCell _ _ _ _ (fun e : g = w.heap.size + 1 + 1 => by omega)).trans ((Below.heap_setCell _ _ _ _ (fun e : g = w.heap.size + 1 + 1 => by omega)).trans ((Below.heap_setCell _ _ _ _ (fun e : g = w.heap.size + 1 + 1 => by omega)).trans (Below.heap_setCell _ _ _ _ (fun e : g = w.heap.size + 1 + 1 + 1 => by omega))))
        have HX := Lib.hid (fun w' (hbw : Below w.heap.size w w') (how : w'.ownsRow w6.heap.size 32 4 (.slice (some ⟨g, 0, none⟩) (s.tn + 1) cap) ((List.range s.tn).map s.tab ++ [st.def_.own role]).length (((List.range s.tn).map s.tab ++ [st.def_.own role]).flatMap Tb.cs)) =>
          rp_make (w' := w') HF.out hs hr k6 hE hDO HVN.out hvI htn hbw how)
        clear HF HZ ho8 ho9 hE hDO hs hst
        go_wp2_with fail
        refine bodyPost_ret (v := .tuple #[.agg #[.int .i64 vn, .slice (some ⟨g, 0, none⟩) (s.tn + 1) cap, .slice s.gA s.gn s.gcap], .int .i64 0]) (by simp [results, Tryz.results25, go_sem, r0, r1, r2]) rfl ⟨HX.out _ (hfin _ _ _) (HOF.out _ _ _), hfin _ _ _⟩
      · go_simp
        refine hK.out _ _ ⟨At.alloc dS _, At.alloc dD _⟩ (fun hS => ?_)
        clear hK K
        try simp only [Act.put, List.setIfInBounds_toArray, List.set_cons_zero, List.set_cons_succ]
        have hbB := Below.alloc hb6d (Below.size hb6d) (.cells #[.string ⟨st.def_.name.toArray⟩, .int .i64 role, .slice st.def_.cA st.def_.cn st.def_.ccap, .slice st.def_.eA st.def_.en st.def_.ecap] 32)
        have aSB := At.alloc dS (.cells #[.string ⟨st.def_.name.toArray⟩, .int .i64 role, .slice st.def_.cA st.def_.cn st.def_.ccap, .slice st.def_.eA st.def_.en st.def_.ecap] 32)
        have aRB := At.alloc dR (.cells #[.string ⟨st.def_.name.toArray⟩, .int .i64 role, .slice st.def_.cA st.def_.cn st.def_.ccap, .slice st.def_.eA st.def_.en st.def_.ecap] 32)
        have aOB := At.alloc dO (.cells #[.string ⟨st.def_.name.toArray⟩, .int .i64 role, .slice st.def_.cA st.def_.cn st.def_.ccap, .slice st.def_.eA st.def_.en st.def_.ecap] 32)
        have aDB := At.alloc dD (.cells #[.string ⟨st.def_.name.toArray⟩, .int .i64 role, .slice st.def_.cA st.def_.cn st.def_.ccap, .slice st.def_.eA st.def_.en st.def_.ecap] 32)
        have aXB := At.fresh WD 32 #[.string ⟨st.def_.name.toArray⟩, .int .i64 role, .slice st.def_.cA st.def_.cn st.def_.ccap, .slice st.def_.eA st.def_.en st.def_.ecap]
        have hzB : (World.alloc WD (.cells #[.string ⟨st.def_.name.toArray⟩, .int .i64 role, .slice st.def_.cA st.def_.cn st.def_.ccap, .slice st.def_.eA st.def_.en st.def_.ecap] 32)).heap.size = (World.heap WD).size + 1 := by simp
        generalize hWB : World.alloc WD (.cells #[.string ⟨st.def_.name.toArray⟩, .int .i64 role, .slice st.def_.cA st.def_.cn st.def_.ccap, .slice st.def_.eA st.def_.en st.def_.ecap] 32) = wB at *
        clear hWB
        refine only_at (i := 4) rfl (by kernel_rfl) (by rfl) (fun K hK => ?_)
        refine wp_append_rowT (.tmp 47) (.tmp 49) rfl (World.ownsRow_nil wB w6.heap.size 32 4) s.tA s.tn s.tcap s.tab (hs.tabs.below hbB) rfl rfl (by omega) (by omega) ?_
        intro v1 wA ho1 hg1
        have hzA := hg1.size
        have hbA : Below w.heap.size w wA := Below.grown hbB hg1 (by have := Below.size hbB; exact this) (fun k e => by cases e)
        have aSA := At.grown aSB hg1 (fun e => by cases e)
        have aRA := At.grown aRB hg1 (fun e => by cases e)
        have aOA := At.grown aOB hg1 (fun e => by cases e)
        have aDA := At.grown aDB hg1 (fun e => by cases e)
        have aXA := At.grown aXB hg1 (fun e => by cases e)
        go_simp
        refine hK.out _ _ ⟨aSA, aDA⟩ (fun hS => ?_)
        clear hK K hg1
        try simp only [Act.put, List.setIfInBounds_toArray, List.set_cons_zero, List.set_cons_succ]
        refine only_at (i := 7) rfl (by kernel_rfl) (by rfl) (fun K hK => ?_)
        refine wp_append_lies wA (.tmp 50) (.tmp 52) 22 rfl w6.heap.size 32 i0 _ 4 72 Tryz.underlying22 hi0 hz0 hzs hzb rfl (by omega) v1 (0 + s.tn) _ rfl ho1 ⟨WD.heap.size, 0, none⟩ 1 1 #[.string ⟨st.def_.name.toArray⟩, .int .i64 role, .slice st.def_.cA st.def_.cn st.def_.ccap, .slice st.def_.eA st.def_.en st.def_.ecap].toList rfl rfl (fun j u hu => by rw [add_plain, Nat.zero_add, At.cell aXA]; simpa using hu) (fun u hu => by simp at hu; rcases hu with rfl | rfl | rfl | rfl <;> rfl) (by omega) (by unfold maxLen; omega) (by omega) (by omega) _ rfl ?_
        intro g cap w8 ho8 hg8 hl8 hlt8
        have hown1 := fun k e => World.ownsRow.lt ho1 k e
        have aS8 := At.grown aSA hg8 (fun e => by have := (hown1 _ e.symm).1; omega)
        have aR8 := At.grown aRA hg8 (fun e => by have := (hown1 _ e.symm).1; omega)
        have aO8 := At.grown aOA hg8 (fun e => by have := (hown1 _ e.symm).1; omega)
        have aD8 := At.grown aDA hg8 (fun e => by have := (hown1 _ e.symm).1; omega)
        have hb8 := Below.grown hbA hg8 (Below.size hbA) (fun k e => by have := (hown1 k e).1; omega)
        have hz8 := hg8.size
        have hg8b : w6.heap.size ≤ g := by
          have := World.ownsRow.lt ho8 g rfl
          exact this.1
        go_simp
        refine hK.out _ _ ⟨aS8, aD8⟩ (fun hS => ?_)
        clear hK K hg8 hl8
        try simp only [Act.put, List.setIfInBounds_toArray, List.set_cons_zero, List.set_cons_succ]
        refine only_at (i := 8) rfl (by kernel_rfl) (by rfl) (fun K hK => ?_)
        go_simp
        refine hK.out _ _ hS (fun hS => ?_)
        clear hK K
        try simp only [Act.put, List.setIfInBounds_toArray, List.set_cons_zero, List.set_cons_succ]
        refine only_at (i := 9) rfl (by kernel_rfl) (by rfl) (fun K hK => ?_)
        have f1 : w8.cell? ⟨w.heap.size + 1 + 1 + 1, 1, none⟩ = some (.slice none 0 0) := aO8.cell 1
        have f2 := aO8.unfrozen 1
        have aS9 := aS8.elsewhere (p := ⟨w.heap.size + 1 + 1 + 1, 1, none⟩) (by simp; omega) (.slice (some ⟨g, 0, none⟩) (s.tn + 1) cap)
        have aR9 := aR8.elsewhere (p := ⟨w.heap.size + 1 + 1 + 1, 1, none⟩) (by simp) (.slice (some ⟨g, 0, none⟩) (s.tn + 1) cap)
        have aD9 := aD8.elsewhere (p := ⟨w.heap.size + 1 + 1 + 1, 1, none⟩) (by simp) (.slice (some ⟨g, 0, none⟩) (s.tn + 1) cap)
        have aO9 : At (w8.setCell ⟨w.heap.size + 1 + 1 + 1, 1, none⟩ (.slice (some ⟨g, 0, none⟩) (s.tn + 1) cap)) (w.heap.size + 1 + 1 + 1) 25 #[.int .i64 vn, .slice (some ⟨g, 0, none⟩) (s.tn + 1) cap, .slice none 0 0] := aO8.put 1 _
        have hb9 := hb8.setCell (p := ⟨w.heap.size + 1 + 1 + 1, 1, none⟩) (by show w.heap.size ≤ w.heap.size + 1 + 1 + 1; omega) (.slice (some ⟨g, 0, none⟩) (s.tn + 1) cap)
        rw [Nat.zero_add] at ho8
        go_simp
        refine hK.out _ _ ⟨aS9, aD9⟩ (fun hS => ?_)
        clear hK K
        try simp only [Act.put, List.setIfInBounds_toArray, List.set_cons_zero, List.set_cons_succ]
        refine wpAnyH_done (by kernel_rfl) ?_ _
        clear hS
        have hz9 : (w8.setCell ⟨w.heap.size + 1 + 1 + 1, 1, none⟩ (.slice (some ⟨g, 0, none⟩) (s.tn + 1) cap)).heap.size = w8.heap.size := by simp [World.setCell]
        have ho9 := own_block_keep ho8 (w' := w8.setCell ⟨w.heap.size + 1 + 1 + 1, 1, none⟩ (.slice (some ⟨g, 0, none⟩) (s.tn + 1) cap)) (fun b e => by
          obtain rfl : g = b := Option.some.inj e
          exact Below.heap_setCell _ _ _ _ (fun e : g = w.heap.size + 1 + 1 + 1 => by omega))
        generalize w8.setCell ⟨w.heap.size + 1 + 1 + 1, 1, none⟩ (.slice (some ⟨g, 0, none⟩) (s.tn + 1) cap) = W9 at *
        obtain ⟨n0, n1, n2⟩ := aS9.tri0
        obtain ⟨o0, o1, o2⟩ := aO9.tri0
        have of2 := aO9.unfrozen 2
        have aO10 : At (W9.setCell ⟨w.heap.size + 1 + 1 + 1, 2, none⟩ (.slice s.gA s.gn s.gcap)) (w.heap.size + 1 + 1 + 1) 25 #[.int .i64 vn, .slice (some ⟨g, 0, none⟩) (s.tn + 1) cap, .slice s.gA s.gn s.gcap] := aO9.put 2 _
        have aR10 := aR9.elsewhere (p := ⟨w.heap.size + 1 + 1 + 1, 2, none⟩) (by simp) (.slice s.gA s.gn s.gcap)
        have hb10 := hb9.setCell (p := ⟨w.heap.size + 1 + 1 + 1, 2, none⟩) (by show w.heap.size ≤ w.heap.size + 1 + 1 + 1; omega) (.slice s.gA s.gn s.gcap)
        obtain ⟨x0, x1, x2⟩ := aO10.tri0
        obtain ⟨r0, r1, r2⟩ := aR10.tri0
        have y0 := aR10.unfrozen 0
        have y1 := aR10.unfrozen 1
        have y2 := aR10.unfrozen 2
        have hfin := fun x y z => below_set3 (g := w.heap.size + 1 + 1) hb10 (by omega) x y z
        have HOF : Hid (∀ x y z, World.ownsRow ((((W9.setCell ⟨w.heap.size + 1 + 1 + 1, 2, none⟩ (.slice s.gA s.gn s.gcap)).setCell ⟨w.heap.size + 1 + 1, 0, none⟩ x).setCell ⟨w.heap.size + 1 + 1, 1, none⟩ y).setCell ⟨w.heap.size + 1 + 1, 2, none⟩ z) w6.heap.size 32 4 (.slice (some ⟨g, 0, none⟩) (s.tn + 1) cap) ((List.range s.tn).map s.tab ++ [st.def_.own role]).length (((List.range s.tn).map s.tab ++ [st.def_.own role]).flatMap Tb.cs)) := by
          show ∀ _, _
          intro x y z
          rw [List.length_append, List.length_map, List.length_range, List.flatMap_append]
          refine own_block_keep ho9 (fun b e => ?_)
          obtain rfl : g = b := Option.some.inj e
          exact (Below.heap_setCell _ _ _ _ (fun e : g = w.heap.size + 1 + 1 => by omega)).trans ((Below.heap_setCell _ _ _ _ (fun e : g = w.heap.size + 1 + 1 => by omega)).trans ((Below.heap_setCell _ _ _ _ (fun e : g = w.heap.size + 1 + 1 => by omega)).trans (Below.heap_setCell _ _ _ _ (fun e : g = w.heap.size + 1 + 1 + 1 => by omega))))
        have HX := Lib.hid (fun w' (hbw : Below w.heap.size w w') (how : w'.ownsRow w6.heap.size 32 4 (.slice (some ⟨g, 0, none⟩) (s.tn + 1) cap) ((List.range s.tn).map s.tab ++ [st.def_.own role]).length (((List.range s.tn).map s.tab ++ [st.def_.own role]).flatMap Tb.cs)) =>
          rp_make (w' := w') HF.out hs hr k6 hE hDO HVN.out hvI htn hbw how)
        clear HF HZ ho8 ho9 hE hDO hs hst
        go_wp2_with fail
        refine bodyPost_ret (v := .tuple #[.agg #[.int .i64 vn, .slice (some ⟨g, 0, none⟩) (s.tn + 1) cap, .slice s.gA s.gn s.gcap], .int .i64 0]) (by simp [results, Tryz.results25, go_sem, r0, r1, r2]) rfl ⟨HX.out _ (hfin _ _ _) (HOF.out _ _ _), hfin _ _ _⟩
    · go_simp
      refine hK.out _ _ ⟨At.alloc dS _, At.alloc dD _⟩ (fun hS => ?_)
      clear hK K
      try simp only [Act.put, List.setIfInBounds_toArray, List.set_cons_zero, List.set_cons_succ]
      have hbB := Below.alloc hb6d (Below.size hb6d) (.cells #[.string ⟨st.def_.name.toArray⟩, .int .i64 role, .slice st.def_.cA st.def_.cn st.def_.ccap, .slice st.def_.eA st.def_.en st.def_.ecap] 32)
      have aSB := At.alloc dS (.cells #[.string ⟨st.def_.name.toArray⟩, .int .i64 role, .slice st.def_.cA st.def_.cn st.def_.ccap, .slice st.def_.eA st.def_.en st.def_.ecap] 32)
      have aRB := At.alloc dR (.cells #[.string ⟨st.def_.name.toArray⟩, .int .i64 role, .slice st.def_.cA st.def_.cn st.def_.ccap, .slice st.def_.eA st.def_.en st.def_.ecap] 32)
      have aOB := At.alloc dO (.cells #[.string ⟨st.def_.name.toArray⟩, .int .i64 role, .slice st.def_.cA st.def_.cn st.def_.ccap, .slice st.def_.eA st.def_.en st.def_.ecap] 32)
      have aDB := At.alloc dD (.cells #[.string ⟨st.def_.name.toArray⟩, .int .i64 role, .slice st.def_.cA st.def_.cn st.def_.ccap, .slice st.def_.eA st.def_.en st.def_.ecap] 32)
      have aXB := At.fresh WD 32 #[.string ⟨st.def_.name.toArray⟩, .int .i64 role, .slice st.def_.cA st.def_.cn st.def_.ccap, .slice st.def_.eA st.def_.en st.def_.ecap]
      have hzB : (World.alloc WD (.cells #[.string ⟨st.def_.name.toArray⟩, .int .i64 role, .slice st.def_.cA st.def_.cn st.def_.ccap, .slice st.def_.eA st.def_.en st.def_.ecap] 32)).heap.size = (World.heap WD).size + 1 := by simp
      generalize hWB : World.alloc WD (.cells #[.string ⟨st.def_.name.toArray⟩, .int .i64 role, .slice st.def_.cA st.def_.cn st.def_.ccap, .slice st.def_.eA st.def_.en st.def_.ecap] 32) = wB at *
      clear hWB
      refine only_at (i := 1) rfl (by kernel_rfl) (by rfl) (fun K hK => ?_)
      have m1 : World.cell? wB ⟨w.heap.size + 1 + 1 + 1, 1, none⟩ = some (.slice none 0 0) := At.cell aOB 1
      go_simp
      refine hK.out _ _ hS (fun hS => ?_)
      clear hK K
      try simp only [Act.put, List.setIfInBounds_toArray, List.set_cons_zero, List.set_cons_succ]
      refine only_at (i := 4) rfl (by kernel_rfl) (by rfl) (fun K hK => ?_)
      refine wp_append_rowT (.tmp 47) (.tmp 49) rfl (World.ownsRow_nil wB w6.heap.size 32 4) s.tA s.tn s.tcap s.tab (hs.tabs.below hbB) rfl rfl (by omega) (by omega) ?_
      intro v1 wA ho1 hg1
      have hzA := hg1.size
      have hbA : Below w.heap.size w wA := Below.grown hbB hg1 (by have := Below.size hbB; exact this) (fun k e => by cases e)
      have aSA := At.grown aSB hg1 (fun e => by cases e)
      have aRA := At.grown aRB hg1 (fun e => by cases e)
      have aOA := At.grown aOB hg1 (fun e => by cases e)
      have aDA := At.grown aDB hg1 (fun e => by cases e)
      have aXA := At.grown aXB hg1 (fun e => by cases e)
      go_simp
      refine hK.out _ _ ⟨aSA, aDA⟩ (fun hS => ?_)
      clear hK K hg1
      try simp only [Act.put, List.setIfInBounds_toArray, List.set_cons_zero, List.set_cons_succ]
      refine only_at (i := 7) rfl (by kernel_rfl) (by rfl) (fun K hK => ?_)
      refine wp_append_lies wA (.tmp 50) (.tmp 52) 22 rfl w6.heap.size 32 i0 _ 4 72 Tryz.underlying22 hi0 hz0 hzs hzb rfl (by omega) v1 (0 + s.tn) _ rfl ho1 ⟨WD.heap.size, 0, none⟩ 1 1 #[.string ⟨st.def_.name.toArray⟩, .int .i64 role, .slice st.def_.cA st.def_.cn st.def_.ccap, .slice st.def_.eA st.def_.en st.def_.ecap].toList rfl rfl (fun j u hu => by rw [add_plain, Nat.zero_add, At.cell aXA]; simpa using hu) (fun u hu => by simp at hu; rcases hu with rfl | rfl | rfl | rfl <;> rfl) (by omega) (by unfold maxLen; omega) (by omega) (by omega) _ rfl ?_
      intro g cap w8 ho8 hg8 hl8 hlt8
      have hown1 := fun k e => World.ownsRow.lt ho1 k e
      have aS8 := At.grown aSA hg8 (fun e => by have := (hown1 _ e.symm).1; omega)
      have aR8 := At.grown aRA hg8 (fun e => by have := (hown1 _ e.symm).1; omega)
      have aO8 := At.grown aOA hg8 (fun e => by have := (hown1 _ e.symm).1; omega)
      have aD8 := At.grown aDA hg8 (fun e => by have := (hown1 _ e.symm).1; omega)
      have hb8 := Below.grown hbA hg8 (Below.size hbA) (fun k e => by have := (hown1 k e).1; omega)
      have hz8 := hg8.size
      have hg8b : w6.heap.size ≤ g := by
        have := World.ownsRow.lt ho8 g rfl
        exact this.1
      go_simp
      refine hK.out _ _ ⟨aS8, aD8⟩ (fun hS => ?_)
      clear hK K hg8 hl8
      try simp only [Act.put, List.setIfInBounds_toArray, List.set_cons_zero, List.set_cons_succ]
      refine only_at (i := 8) rfl (by kernel_rfl) (by rfl) (fun K hK => ?_)
      go_simp
      refine hK.out _ _ hS (fun hS => ?_)
      clear hK K
      try simp only [Act.put, List.setIfInBounds_toArray, List.set_cons_zero, List.set_cons_succ]
      refine only_at (i := 9) rfl (by kernel_rfl) (by rfl) (fun K hK => ?_)
      have f1 : w8.cell? ⟨w.heap.size + 1 + 1 + 1, 1, none⟩ = some (.slice none 0 0) := aO8.cell 1
      have f2 := aO8.unfrozen 1
      have aS9 := aS8.elsewhere (p := ⟨w.heap.size + 1 + 1 + 1, 1, none⟩) (by simp; omega) (.slice (some ⟨g, 0, none⟩) (s.tn + 1) cap)
      have aR9 := aR8.elsewhere (p := ⟨w.heap.size + 1 + 1 + 1, 1, none⟩) (by simp) (.slice (some ⟨g, 0, none⟩) (s.tn + 1) cap)
      have aD9 := aD8.elsewhere (p := ⟨w.heap.size + 1 + 1 + 1, 1, none⟩) (by simp) (.slice (some ⟨g, 0, none⟩) (s.tn + 1) cap)
      have aO9 : At (w8.setCell ⟨w.heap.size + 1 + 1 + 1, 1, none⟩ (.slice (some ⟨g, 0, none⟩) (s.tn + 1) cap)) (w.heap.size + 1 + 1 + 1) 25 #[.int .i64 vn, .slice (some ⟨g, 0, none⟩) (s.tn + 1) cap, .slice none 0 0] := aO8.put 1 _
      have hb9 := hb8.setCell (p := ⟨w.heap.size + 1 + 1 + 1, 1, none⟩) (by show w.heap.size ≤ w.heap.size + 1 + 1 + 1; omega) (.slice (some ⟨g, 0, none⟩) (s.tn + 1) cap)
      rw [Nat.zero_add] at ho8
      go_simp
      refine hK.out _ _ ⟨aS9, aD9⟩ (fun hS => ?_)
      clear hK K
      try simp only [Act.put, List.setIfInBounds_toArray, List.set_cons_zero, List.set_cons_succ]
      refine wpAnyH_done (by kernel_rfl) ?_ _
      clear hS
      have hz9 : (w8.setCell ⟨w.heap.size + 1 + 1 + 1, 1, none⟩ (.slice (some ⟨g, 0, none⟩) (s.tn + 1) cap)).heap.size = w8.heap.size := by simp [World.setCell]
      have ho9 := own_block_keep ho8 (w' := w8.setCell ⟨w.heap.size + 1 + 1 + 1, 1, none⟩ (.slice (some ⟨g, 0, none⟩) (s.tn + 1) cap)) (fun b e => by
        obtain rfl : g = b := Option.some.inj e
        exact Below.heap_setCell _ _ _ _ (fun e : g = w.heap.size + 1 + 1 + 1 => by omega))
      generalize w8.setCell ⟨w.heap.size + 1 + 1 + 1, 1, none⟩ (.slice (some ⟨g, 0, none⟩) (s.tn + 1) cap) = W9 at *
      obtain ⟨n0, n1, n2⟩ := aS9.tri0
      obtain ⟨o0, o1, o2⟩ := aO9.tri0
      have of2 := aO9.unfrozen 2
      have aO10 : At (W9.setCell ⟨w.heap.size + 1 + 1 + 1, 2, none⟩ (.slice s.gA s.gn s.gcap)) (w.heap.size + 1 + 1 + 1) 25 #[.int .i64 vn, .slice (some ⟨g, 0, none⟩) (s.tn + 1) cap, .slice s.gA s.gn s.gcap] := aO9.put 2 _
      have aR10 := aR9.elsewhere (p := ⟨w.heap.size + 1 + 1 + 1, 2, none⟩) (by simp) (.slice s.gA s.gn s.gcap)
      have hb10 := hb9.setCell (p := ⟨w.heap.size + 1 + 1 + 1, 2, none⟩) (by show w.heap.size ≤ w.heap.size + 1 + 1 + 1; omega) (.slice s.gA s.gn s.gcap)
      obtain ⟨x0, x1, x2⟩ := aO10.tri0
      obtain ⟨r0, r1, r2⟩ := aR10.tri0
      have y0 := aR10.unfrozen 0
      have y1 := aR10.unfrozen 1
      have y2 := aR10.unfrozen 2
      have hfin := fun x y z => below_set3 (g := w.heap.size + 1 + 1) hb10 (by omega) x y z
      have HOF : Hid (∀ x y z, World.ownsRow ((((W9.setCell ⟨w.heap.size + 1 + 1 + 1, 2, none⟩ (.slice s.gA s.gn s.gcap)).setCell ⟨w.heap.size + 1 + 1, 0, none⟩ x).setCell ⟨w.heap.size + 1 + 1, 1, none⟩ y).setCell ⟨w.heap.size + 1 + 1, 2, none⟩ z) w6.heap.size 32 4 (.slice (some ⟨g, 0, none⟩) (s.tn + 1) cap) ((List.range s.tn).map s.tab ++ [st.def_.own role]).length (((List.range s.tn).map s.tab ++ [st.def_.own role]).flatMap Tb.cs)) := by
        show ∀ _, _
        intro x y z
        rw [List.length_append, List.length_map, List.length_range, List.flatMap_append]
        refine own_block_keep ho9 (fun b e => ?_)
        obtain rfl : g = b := Option.some.inj e
        exact (Below.heap_setCell _ _ _ _ (fun e : g = w.heap.size + 1 + 1 => by omega)).trans ((Below.heap_setCell _ _ _ _ (fun e : g = w.heap.size + 1 + 1 => by omega)).trans ((Below.heap_setCell _ _ _ _ (fun e : g = w.heap.size + 1 + 1 => by omega)).trans (Below.heap_setCell _ _ _ _ (fun e : g = w.heap.size + 1 + 1 + 1 => by omega))))
      have HX := Lib.hid (fun w' (hbw : Below w.heap.size w w') (how : w'.ownsRow w6.heap.size 32 4 (.slice (some ⟨g, 0, none⟩) (s.tn + 1) cap) ((List.range s.tn).map s.tab ++ [st.def_.own role]).length (((List.range s.tn).map s.tab ++ [st.def_.own role]).flatMap Tb.cs)) =>
        rp_make (w' := w') HF.out hs hr k6 hE hDO HVN.out hvI htn hbw how)
      clear HF HZ ho8 ho9 hE hDO hs hst
      go_wp2_with fail
      refine bodyPost_ret (v := .tuple #[.agg #[.int .i64 vn, .slice (some ⟨g, 0, none⟩) (s.tn + 1) cap, .slice s.gA s.gn s.gcap], .int .i64 0]) (by simp [results, Tryz.results25, go_sem, r0, r1, r2]) rfl ⟨HX.out _ (hfin _ _ _) (HOF.out _ _ _), hfin _ _ _⟩
  · have her2 : (er != 0) = true := by simpa using her
    obtain ⟨r0, r1, r2⟩ := aR6.tri0
    have y0 := aR6.unfrozen 0
    have y1 := aR6.unfrozen 1
    have y2 := aR6.unfrozen 2
    have hfin := fun x y z => below_set3 (g := w.heap.size + 1 + 1) hb6 (by omega) x y z
    have HX := Lib.hid (fun w' => HZ.out er w' her (fun X => .inr ⟨hr, .inr (.inl ⟨k6, hE, fun h => absurd h her⟩)⟩))
    clear HZ HF hs hst
    go_wp2_with fail
    exact bodyPost_ret (v := .tuple #[.agg #[.int .i64 0, .slice none 0 0, .slice none 0 0], .int .i64 er]) (by simp [results, Tryz.results25, go_sem, r0, r1, r2]) rfl ⟨HX.out _, hfin _ _ _⟩
end Go.Proofs.YtnhalfdddcjicaaGreat
