/- The walks of the cutter's place (package cell). -/
import Derived.Test.YtcjbnpeopalbfaaDoorCellH
namespace Go.Proofs.YtcjbnpeopalbfaaDoor
open Go.RowKit

theorem At.grown' {w w' : World} {g h : Nat} {t : TypeId} {cs : Array Value} (hA : At w g t cs) (hg : w.grownBy w' (some h)) (hne : ¬ g = h) : At w' g t cs := hA.grown hg (by simpa using hne)

set_option maxRecDepth 100000 in
set_option maxHeartbeats 3200000 in
theorem place_row (c : Cu) (hr : c.rest.length ≤ 1000000) (g : Nat) (w : World) (hC : CuAt w g c) :
    Calls Tryd.prog 33 #[.pointer (some ⟨g, 0, none⟩), .int .u8 114] w fun e w' => e = .returned (c.place 114).1.val ∧ CuAt w' g (c.place 114).2 ∧ w.grownBy w' (some g) := by
  obtain ⟨⟨t1, c1⟩, E1⟩ : ∃ x, c.name = x := ⟨_, rfl⟩
  have hr1 := Nat.le_trans (name_rest c) hr
  have M1 : ∀ W, CuAt W g c → Calls Tryd.prog 47 #[.pointer (some ⟨g, 0, none⟩)] W fun e w' => e = .returned (.string ⟨t1.toArray⟩) ∧ CuAt w' g c1 ∧ W.grownBy w' (some g) := fun W h => by
    have := cname_any c hr g W h
    rw [E1] at this
    exact this
  rw [E1] at hr1
  simp only at hr1
  obtain ⟨⟨⟨i2, j2, t2⟩, c2⟩, E2⟩ : ∃ x, c1.val = x := ⟨_, rfl⟩
  have hr2 := Nat.le_trans (val_rest c1) hr1
  have M2 : ∀ W, CuAt W g c1 → Calls Tryd.prog 48 #[.pointer (some ⟨g, 0, none⟩)] W fun e w' => e = .returned (.agg #[.int .i64 i2, .int .i64 j2, .string ⟨t2.toArray⟩]) ∧ CuAt w' g c2 ∧ W.grownBy w' (some g) := fun W h => by
    have := cval_any c1 hr1 g W h
    rw [E2] at this
    exact this
  rw [E2] at hr2
  simp only at hr2
  have hP : c.place 114 = (⟨114, t1, [], ⟨i2, j2, t2⟩, [], nullV⟩, c2) := by
    unfold Cu.place
    rw [if_pos (rfl : (114 : UInt8) = 114)]
    simp only [E1, E2]
  rw [hP]
  clear hP E1 E2
  have H1 := Lib.hid M1
  have H2 := Lib.hid M2
  clear M1 hr1 M2 hr2
  have hgl := hC.lt
  have hne : ¬ w.heap.size = g := by omega
  have hne' : ¬ g = w.heap.size := by omega
  have hA0 := At.fresh w 32 #[.int .u8 0, .string ⟨#[]⟩, .string ⟨#[]⟩, .int .i64 0, .int .i64 0, .string ⟨#[]⟩, .string ⟨#[]⟩, .int .i64 0, .int .i64 0, .string ⟨#[]⟩]
  have hC0 : CuAt (w.alloc (.cells #[.int .u8 0, .string ⟨#[]⟩, .string ⟨#[]⟩, .int .i64 0, .int .i64 0, .string ⟨#[]⟩, .string ⟨#[]⟩, .int .i64 0, .int .i64 0, .string ⟨#[]⟩] 32)) g c := At.alloc hC _
  have hg0 : w.grownBy (w.alloc (.cells #[.int .u8 0, .string ⟨#[]⟩, .string ⟨#[]⟩, .int .i64 0, .int .i64 0, .string ⟨#[]⟩, .string ⟨#[]⟩, .int .i64 0, .int .i64 0, .string ⟨#[]⟩] 32)) (some g) := World.grownBy_alloc w _ _
  go_enter Tryd.func33, Tryd.ntmps33
  go_wp2_with fail
  refine (H1.out _ hC0).mono ?_
  rintro e w1 ⟨rfl, hC1, k1⟩
  have hA1 := hA0.grown' k1 hne
  have hg1 := grownBy_tr hg0 k1
  clear hA0 hC0 hg0 k1
  go_wp2_with fail
  refine (H2.out _ hC1).mono ?_
  rintro e w2 ⟨rfl, hC2, k2⟩
  have hA2 := hA1.grown' k2 hne
  have hg2 := grownBy_tr hg1 k2
  clear hA1 hC1 hg1 k2
  have d0 := At.cell hA2 0
  have f0 := At.unfrozen hA2 0
  have d1 := At.cell hA2 1
  have f1 := At.unfrozen hA2 1
  have d2 := At.cell hA2 2
  have f2 := At.unfrozen hA2 2
  have d3 := At.cell hA2 3
  have f3 := At.unfrozen hA2 3
  have d4 := At.cell hA2 4
  have f4 := At.unfrozen hA2 4
  have d5 := At.cell hA2 5
  have f5 := At.unfrozen hA2 5
  have d6 := At.cell hA2 6
  have f6 := At.unfrozen hA2 6
  have d7 := At.cell hA2 7
  have f7 := At.unfrozen hA2 7
  have d8 := At.cell hA2 8
  have f8 := At.unfrozen hA2 8
  have d9 := At.cell hA2 9
  have f9 := At.unfrozen hA2 9
  simp only [List.getElem?_toArray, List.getElem?_cons_zero, List.getElem?_cons_succ] at d0 d1 d2 d3 d4 d5 d6 d7 d8 d9
  go_wp2_with fail
  refine bodyPost_ret (v := (⟨114, t1, [], ⟨i2, j2, t2⟩, [], nullV⟩ : Pl).val) (by simp [results, Tryd.results33, go_sem, Pl.val, nullV, d0, d1, d2, d3, d4, d5, d6, d7, d8, d9]) rfl ⟨rfl, ?_, ?_⟩
  · exact put10_at hC2 hne' _ _ _ _ _ _ _ _ _ _
  · exact put10_grown hg2 (Nat.le_refl _) _ _ _ _ _ _ _ _ _ _

set_option maxRecDepth 100000 in
set_option maxHeartbeats 3200000 in
theorem place_uniq (c : Cu) (hr : c.rest.length ≤ 1000000) (g : Nat) (w : World) (hC : CuAt w g c) :
    Calls Tryd.prog 33 #[.pointer (some ⟨g, 0, none⟩), .int .u8 117] w fun e w' => e = .returned (c.place 117).1.val ∧ CuAt w' g (c.place 117).2 ∧ w.grownBy w' (some g) := by
  obtain ⟨⟨t1, c1⟩, E1⟩ : ∃ x, c.name = x := ⟨_, rfl⟩
  have hr1 := Nat.le_trans (name_rest c) hr
  have M1 : ∀ W, CuAt W g c → Calls Tryd.prog 47 #[.pointer (some ⟨g, 0, none⟩)] W fun e w' => e = .returned (.string ⟨t1.toArray⟩) ∧ CuAt w' g c1 ∧ W.grownBy w' (some g) := fun W h => by
    have := cname_any c hr g W h
    rw [E1] at this
    exact this
  rw [E1] at hr1
  simp only at hr1
  obtain ⟨⟨t2, c2⟩, E2⟩ : ∃ x, c1.name = x := ⟨_, rfl⟩
  have hr2 := Nat.le_trans (name_rest c1) hr1
  have M2 : ∀ W, CuAt W g c1 → Calls Tryd.prog 47 #[.pointer (some ⟨g, 0, none⟩)] W fun e w' => e = .returned (.string ⟨t2.toArray⟩) ∧ CuAt w' g c2 ∧ W.grownBy w' (some g) := fun W h => by
    have := cname_any c1 hr1 g W h
    rw [E2] at this
    exact this
  rw [E2] at hr2
  simp only at hr2
  obtain ⟨⟨⟨i3, j3, t3⟩, c3⟩, E3⟩ : ∃ x, c2.val = x := ⟨_, rfl⟩
  have hr3 := Nat.le_trans (val_rest c2) hr2
  have M3 : ∀ W, CuAt W g c2 → Calls Tryd.prog 48 #[.pointer (some ⟨g, 0, none⟩)] W fun e w' => e = .returned (.agg #[.int .i64 i3, .int .i64 j3, .string ⟨t3.toArray⟩]) ∧ CuAt w' g c3 ∧ W.grownBy w' (some g) := fun W h => by
    have := cval_any c2 hr2 g W h
    rw [E3] at this
    exact this
  rw [E3] at hr3
  simp only at hr3
  have hP : c.place 117 = (⟨117, t1, t2, ⟨i3, j3, t3⟩, [], nullV⟩, c3) := by
    unfold Cu.place
    rw [if_neg (show ¬ (117 : UInt8) = 114 by decide), if_pos (rfl : (117 : UInt8) = 117)]
    simp only [E1, E2, E3]
  rw [hP]
  clear hP E1 E2 E3
  have H1 := Lib.hid M1
  have H2 := Lib.hid M2
  have H3 := Lib.hid M3
  clear M1 hr1 M2 hr2 M3 hr3
  have hgl := hC.lt
  have hne : ¬ w.heap.size = g := by omega
  have hne' : ¬ g = w.heap.size := by omega
  have hA0 := At.fresh w 32 #[.int .u8 0, .string ⟨#[]⟩, .string ⟨#[]⟩, .int .i64 0, .int .i64 0, .string ⟨#[]⟩, .string ⟨#[]⟩, .int .i64 0, .int .i64 0, .string ⟨#[]⟩]
  have hC0 : CuAt (w.alloc (.cells #[.int .u8 0, .string ⟨#[]⟩, .string ⟨#[]⟩, .int .i64 0, .int .i64 0, .string ⟨#[]⟩, .string ⟨#[]⟩, .int .i64 0, .int .i64 0, .string ⟨#[]⟩] 32)) g c := At.alloc hC _
  have hg0 : w.grownBy (w.alloc (.cells #[.int .u8 0, .string ⟨#[]⟩, .string ⟨#[]⟩, .int .i64 0, .int .i64 0, .string ⟨#[]⟩, .string ⟨#[]⟩, .int .i64 0, .int .i64 0, .string ⟨#[]⟩] 32)) (some g) := World.grownBy_alloc w _ _
  go_enter Tryd.func33, Tryd.ntmps33
  go_wp2_with fail
  refine (H1.out _ hC0).mono ?_
  rintro e w1 ⟨rfl, hC1, k1⟩
  have hA1 := hA0.grown' k1 hne
  have hg1 := grownBy_tr hg0 k1
  clear hA0 hC0 hg0 k1
  go_wp2_with fail
  refine (H2.out _ hC1).mono ?_
  rintro e w2 ⟨rfl, hC2, k2⟩
  have hA2 := hA1.grown' k2 hne
  have hg2 := grownBy_tr hg1 k2
  clear hA1 hC1 hg1 k2
  go_wp2_with fail
  refine (H3.out _ hC2).mono ?_
  rintro e w3 ⟨rfl, hC3, k3⟩
  have hA3 := hA2.grown' k3 hne
  have hg3 := grownBy_tr hg2 k3
  clear hA2 hC2 hg2 k3
  have d0 := At.cell hA3 0
  have f0 := At.unfrozen hA3 0
  have d1 := At.cell hA3 1
  have f1 := At.unfrozen hA3 1
  have d2 := At.cell hA3 2
  have f2 := At.unfrozen hA3 2
  have d3 := At.cell hA3 3
  have f3 := At.unfrozen hA3 3
  have d4 := At.cell hA3 4
  have f4 := At.unfrozen hA3 4
  have d5 := At.cell hA3 5
  have f5 := At.unfrozen hA3 5
  have d6 := At.cell hA3 6
  have f6 := At.unfrozen hA3 6
  have d7 := At.cell hA3 7
  have f7 := At.unfrozen hA3 7
  have d8 := At.cell hA3 8
  have f8 := At.unfrozen hA3 8
  have d9 := At.cell hA3 9
  have f9 := At.unfrozen hA3 9
  simp only [List.getElem?_toArray, List.getElem?_cons_zero, List.getElem?_cons_succ] at d0 d1 d2 d3 d4 d5 d6 d7 d8 d9
  go_wp2_with fail
  refine bodyPost_ret (v := (⟨117, t1, t2, ⟨i3, j3, t3⟩, [], nullV⟩ : Pl).val) (by simp [results, Tryd.results33, go_sem, Pl.val, nullV, d0, d1, d2, d3, d4, d5, d6, d7, d8, d9]) rfl ⟨rfl, ?_, ?_⟩
  · exact put10_at hC3 hne' _ _ _ _ _ _ _ _ _ _
  · exact put10_grown hg3 (Nat.le_refl _) _ _ _ _ _ _ _ _ _ _

set_option maxRecDepth 100000 in
set_option maxHeartbeats 3200000 in
theorem place_ref (c : Cu) (hr : c.rest.length ≤ 1000000) (g : Nat) (w : World) (hC : CuAt w g c) :
    Calls Tryd.prog 33 #[.pointer (some ⟨g, 0, none⟩), .int .u8 102] w fun e w' => e = .returned (c.place 102).1.val ∧ CuAt w' g (c.place 102).2 ∧ w.grownBy w' (some g) := by
  obtain ⟨⟨t1, c1⟩, E1⟩ : ∃ x, c.name = x := ⟨_, rfl⟩
  have hr1 := Nat.le_trans (name_rest c) hr
  have M1 : ∀ W, CuAt W g c → Calls Tryd.prog 47 #[.pointer (some ⟨g, 0, none⟩)] W fun e w' => e = .returned (.string ⟨t1.toArray⟩) ∧ CuAt w' g c1 ∧ W.grownBy w' (some g) := fun W h => by
    have := cname_any c hr g W h
    rw [E1] at this
    exact this
  rw [E1] at hr1
  simp only at hr1
  obtain ⟨⟨⟨i2, j2, t2⟩, c2⟩, E2⟩ : ∃ x, c1.val = x := ⟨_, rfl⟩
  have hr2 := Nat.le_trans (val_rest c1) hr1
  have M2 : ∀ W, CuAt W g c1 → Calls Tryd.prog 48 #[.pointer (some ⟨g, 0, none⟩)] W fun e w' => e = .returned (.agg #[.int .i64 i2, .int .i64 j2, .string ⟨t2.toArray⟩]) ∧ CuAt w' g c2 ∧ W.grownBy w' (some g) := fun W h => by
    have := cval_any c1 hr1 g W h
    rw [E2] at this
    exact this
  rw [E2] at hr2
  simp only at hr2
  obtain ⟨⟨t3, c3⟩, E3⟩ : ∃ x, c2.name = x := ⟨_, rfl⟩
  have hr3 := Nat.le_trans (name_rest c2) hr2
  have M3 : ∀ W, CuAt W g c2 → Calls Tryd.prog 47 #[.pointer (some ⟨g, 0, none⟩)] W fun e w' => e = .returned (.string ⟨t3.toArray⟩) ∧ CuAt w' g c3 ∧ W.grownBy w' (some g) := fun W h => by
    have := cname_any c2 hr2 g W h
    rw [E3] at this
    exact this
  rw [E3] at hr3
  simp only at hr3
  obtain ⟨⟨t4, c4⟩, E4⟩ : ∃ x, c3.name = x := ⟨_, rfl⟩
  have hr4 := Nat.le_trans (name_rest c3) hr3
  have M4 : ∀ W, CuAt W g c3 → Calls Tryd.prog 47 #[.pointer (some ⟨g, 0, none⟩)] W fun e w' => e = .returned (.string ⟨t4.toArray⟩) ∧ CuAt w' g c4 ∧ W.grownBy w' (some g) := fun W h => by
    have := cname_any c3 hr3 g W h
    rw [E4] at this
    exact this
  rw [E4] at hr4
  simp only at hr4
  obtain ⟨⟨⟨i5, j5, t5⟩, c5⟩, E5⟩ : ∃ x, c4.val = x := ⟨_, rfl⟩
  have hr5 := Nat.le_trans (val_rest c4) hr4
  have M5 : ∀ W, CuAt W g c4 → Calls Tryd.prog 48 #[.pointer (some ⟨g, 0, none⟩)] W fun e w' => e = .returned (.agg #[.int .i64 i5, .int .i64 j5, .string ⟨t5.toArray⟩]) ∧ CuAt w' g c5 ∧ W.grownBy w' (some g) := fun W h => by
    have := cval_any c4 hr4 g W h
    rw [E5] at this
    exact this
  rw [E5] at hr5
  simp only at hr5
  have hP : c.place 102 = (⟨102, t1, t4, ⟨i2, j2, t2⟩, t3, ⟨i5, j5, t5⟩⟩, c5) := by
    unfold Cu.place
    rw [if_neg (show ¬ (102 : UInt8) = 114 by decide), if_neg (show ¬ (102 : UInt8) = 117 by decide), if_pos (rfl : (102 : UInt8) = 102)]
    simp only [E1, E2, E3, E4, E5]
  rw [hP]
  clear hP E1 E2 E3 E4 E5
  have H1 := Lib.hid M1
  have H2 := Lib.hid M2
  have H3 := Lib.hid M3
  have H4 := Lib.hid M4
  have H5 := Lib.hid M5
  clear M1 hr1 M2 hr2 M3 hr3 M4 hr4 M5 hr5
  have hgl := hC.lt
  have hne : ¬ w.heap.size = g := by omega
  have hne' : ¬ g = w.heap.size := by omega
  have hA0 := At.fresh w 32 #[.int .u8 0, .string ⟨#[]⟩, .string ⟨#[]⟩, .int .i64 0, .int .i64 0, .string ⟨#[]⟩, .string ⟨#[]⟩, .int .i64 0, .int .i64 0, .string ⟨#[]⟩]
  have hC0 : CuAt (w.alloc (.cells #[.int .u8 0, .string ⟨#[]⟩, .string ⟨#[]⟩, .int .i64 0, .int .i64 0, .string ⟨#[]⟩, .string ⟨#[]⟩, .int .i64 0, .int .i64 0, .string ⟨#[]⟩] 32)) g c := At.alloc hC _
  have hg0 : w.grownBy (w.alloc (.cells #[.int .u8 0, .string ⟨#[]⟩, .string ⟨#[]⟩, .int .i64 0, .int .i64 0, .string ⟨#[]⟩, .string ⟨#[]⟩, .int .i64 0, .int .i64 0, .string ⟨#[]⟩] 32)) (some g) := World.grownBy_alloc w _ _
  go_enter Tryd.func33, Tryd.ntmps33
  go_wp2_with fail
  refine (H1.out _ hC0).mono ?_
  rintro e w1 ⟨rfl, hC1, k1⟩
  have hA1 := hA0.grown' k1 hne
  have hg1 := grownBy_tr hg0 k1
  clear hA0 hC0 hg0 k1
  go_wp2_with fail
  refine (H2.out _ hC1).mono ?_
  rintro e w2 ⟨rfl, hC2, k2⟩
  have hA2 := hA1.grown' k2 hne
  have hg2 := grownBy_tr hg1 k2
  clear hA1 hC1 hg1 k2
  go_wp2_with fail
  refine (H3.out _ hC2).mono ?_
  rintro e w3 ⟨rfl, hC3, k3⟩
  have hA3 := hA2.grown' k3 hne
  have hg3 := grownBy_tr hg2 k3
  clear hA2 hC2 hg2 k3
  go_wp2_with fail
  refine (H4.out _ hC3).mono ?_
  rintro e w4 ⟨rfl, hC4, k4⟩
  have hA4 := hA3.grown' k4 hne
  have hg4 := grownBy_tr hg3 k4
  clear hA3 hC3 hg3 k4
  go_wp2_with fail
  refine (H5.out _ hC4).mono ?_
  rintro e w5 ⟨rfl, hC5, k5⟩
  have hA5 := hA4.grown' k5 hne
  have hg5 := grownBy_tr hg4 k5
  clear hA4 hC4 hg4 k5
  have d0 := At.cell hA5 0
  have f0 := At.unfrozen hA5 0
  have d1 := At.cell hA5 1
  have f1 := At.unfrozen hA5 1
  have d2 := At.cell hA5 2
  have f2 := At.unfrozen hA5 2
  have d3 := At.cell hA5 3
  have f3 := At.unfrozen hA5 3
  have d4 := At.cell hA5 4
  have f4 := At.unfrozen hA5 4
  have d5 := At.cell hA5 5
  have f5 := At.unfrozen hA5 5
  have d6 := At.cell hA5 6
  have f6 := At.unfrozen hA5 6
  have d7 := At.cell hA5 7
  have f7 := At.unfrozen hA5 7
  have d8 := At.cell hA5 8
  have f8 := At.unfrozen hA5 8
  have d9 := At.cell hA5 9
  have f9 := At.unfrozen hA5 9
  simp only [List.getElem?_toArray, List.getElem?_cons_zero, List.getElem?_cons_succ] at d0 d1 d2 d3 d4 d5 d6 d7 d8 d9
  go_wp2_with fail
  refine bodyPost_ret (v := (⟨102, t1, t4, ⟨i2, j2, t2⟩, t3, ⟨i5, j5, t5⟩⟩ : Pl).val) (by simp [results, Tryd.results33, go_sem, Pl.val, d0, d1, d2, d3, d4, d5, d6, d7, d8, d9]) rfl ⟨rfl, ?_, ?_⟩
  · exact put10_at hC5 hne' _ _ _ _ _ _ _ _ _ _
  · exact put10_grown hg5 (Nat.le_refl _) _ _ _ _ _ _ _ _ _ _

set_option maxRecDepth 100000 in
set_option maxHeartbeats 3200000 in
theorem place_tab (c : Cu) (hr : c.rest.length ≤ 1000000) (g : Nat) (w : World) (hC : CuAt w g c) :
    Calls Tryd.prog 33 #[.pointer (some ⟨g, 0, none⟩), .int .u8 116] w fun e w' => e = .returned (c.place 116).1.val ∧ CuAt w' g (c.place 116).2 ∧ w.grownBy w' (some g) := by
  obtain ⟨⟨t1, c1⟩, E1⟩ : ∃ x, c.name = x := ⟨_, rfl⟩
  have hr1 := Nat.le_trans (name_rest c) hr
  have M1 : ∀ W, CuAt W g c → Calls Tryd.prog 47 #[.pointer (some ⟨g, 0, none⟩)] W fun e w' => e = .returned (.string ⟨t1.toArray⟩) ∧ CuAt w' g c1 ∧ W.grownBy w' (some g) := fun W h => by
    have := cname_any c hr g W h
    rw [E1] at this
    exact this
  rw [E1] at hr1
  simp only at hr1
  have hP : c.place 116 = (⟨116, t1, [], nullV, [], nullV⟩, c1) := by
    unfold Cu.place
    rw [if_neg (show ¬ (116 : UInt8) = 114 by decide), if_neg (show ¬ (116 : UInt8) = 117 by decide), if_neg (show ¬ (116 : UInt8) = 102 by decide), if_pos (rfl : (116 : UInt8) = 116)]
    simp only [E1]
  rw [hP]
  clear hP E1
  have H1 := Lib.hid M1
  clear M1 hr1
  have hgl := hC.lt
  have hne : ¬ w.heap.size = g := by omega
  have hne' : ¬ g = w.heap.size := by omega
  have hA0 := At.fresh w 32 #[.int .u8 0, .string ⟨#[]⟩, .string ⟨#[]⟩, .int .i64 0, .int .i64 0, .string ⟨#[]⟩, .string ⟨#[]⟩, .int .i64 0, .int .i64 0, .string ⟨#[]⟩]
  have hC0 : CuAt (w.alloc (.cells #[.int .u8 0, .string ⟨#[]⟩, .string ⟨#[]⟩, .int .i64 0, .int .i64 0, .string ⟨#[]⟩, .string ⟨#[]⟩, .int .i64 0, .int .i64 0, .string ⟨#[]⟩] 32)) g c := At.alloc hC _
  have hg0 : w.grownBy (w.alloc (.cells #[.int .u8 0, .string ⟨#[]⟩, .string ⟨#[]⟩, .int .i64 0, .int .i64 0, .string ⟨#[]⟩, .string ⟨#[]⟩, .int .i64 0, .int .i64 0, .string ⟨#[]⟩] 32)) (some g) := World.grownBy_alloc w _ _
  go_enter Tryd.func33, Tryd.ntmps33
  go_wp2_with fail
  refine (H1.out _ hC0).mono ?_
  rintro e w1 ⟨rfl, hC1, k1⟩
  have hA1 := hA0.grown' k1 hne
  have hg1 := grownBy_tr hg0 k1
  clear hA0 hC0 hg0 k1
  have d0 := At.cell hA1 0
  have f0 := At.unfrozen hA1 0
  have d1 := At.cell hA1 1
  have f1 := At.unfrozen hA1 1
  have d2 := At.cell hA1 2
  have f2 := At.unfrozen hA1 2
  have d3 := At.cell hA1 3
  have f3 := At.unfrozen hA1 3
  have d4 := At.cell hA1 4
  have f4 := At.unfrozen hA1 4
  have d5 := At.cell hA1 5
  have f5 := At.unfrozen hA1 5
  have d6 := At.cell hA1 6
  have f6 := At.unfrozen hA1 6
  have d7 := At.cell hA1 7
  have f7 := At.unfrozen hA1 7
  have d8 := At.cell hA1 8
  have f8 := At.unfrozen hA1 8
  have d9 := At.cell hA1 9
  have f9 := At.unfrozen hA1 9
  simp only [List.getElem?_toArray, List.getElem?_cons_zero, List.getElem?_cons_succ] at d0 d1 d2 d3 d4 d5 d6 d7 d8 d9
  go_wp2_with fail
  refine bodyPost_ret (v := (⟨116, t1, [], nullV, [], nullV⟩ : Pl).val) (by simp [results, Tryd.results33, go_sem, Pl.val, nullV, d0, d1, d2, d3, d4, d5, d6, d7, d8, d9]) rfl ⟨rfl, ?_, ?_⟩
  · exact put10_at hC1 hne' _ _ _ _ _ _ _ _ _ _
  · exact put10_grown hg1 (Nat.le_refl _) _ _ _ _ _ _ _ _ _ _
end Go.Proofs.YtcjbnpeopalbfaaDoor
