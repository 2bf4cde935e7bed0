/- The walks of the cutter's place, continued, and of Parse (package cell). -/
import Derived.Test.YtcjbnpeopalbfaaDoorCellI
namespace Go.Proofs.YtcjbnpeopalbfaaDoor
open Go.RowKit

set_option maxRecDepth 100000 in
set_option maxHeartbeats 3200000 in
theorem place_else (k : UInt8) (h1 : ¬ k = 114) (h2 : ¬ k = 117) (h3 : ¬ k = 102) (h4 : ¬ k = 116) (c : Cu) (g : Nat) (w : World) (hC : CuAt w g c) :
    Calls Tryd.prog 33 #[.pointer (some ⟨g, 0, none⟩), .int .u8 (k.toNat : Int)] w fun e w' => e = .returned (c.place k).1.val ∧ CuAt w' g (c.place k).2 ∧ w.grownBy w' (some g) := by
  have hP : c.place k = (Pl.zero, ⟨c.rest, true⟩) := by
    unfold Cu.place
    rw [if_neg h1, if_neg h2, if_neg h3, if_neg h4]
  rw [hP]
  have q : ∀ n : Nat, n < 256 → ¬ k = n.toUInt8 → ((k.toNat : Int) == (n : Int)) = false := fun n hn h => by
    refine beq_eq_false_iff_ne.2 fun e => h (UInt8.toNat_inj.1 ?_)
    rw [Lib.toUInt8_toNat hn]
    omega
  have q1 : ((k.toNat : Int) == 114) = false := q 114 (by omega) h1
  have q2 : ((k.toNat : Int) == 117) = false := q 117 (by omega) h2
  have q3 : ((k.toNat : Int) == 102) = false := q 102 (by omega) h3
  have q4 : ((k.toNat : Int) == 116) = false := q 116 (by omega) h4
  clear q h1 h2 h3 h4 hP
  generalize (k.toNat : Int) = kk at *
  obtain ⟨s, bad⟩ := c
  have hgl := hC.lt
  have hne : ¬ w.heap.size = g := by omega
  have hne' : ¬ g = w.heap.size := by omega
  unfold CuAt at hC
  simp only at hC
  have c1 : w.cell? ⟨g, 1, none⟩ = some (.bool bad) := At.cell hC 1
  have g1 := At.unfrozen hC 1
  go_enter Tryd.func33, Tryd.ntmps33
  go_wp2_with fail
  refine bodyPost_ret (v := Pl.zero.val) (by simp [results, Tryd.results33, go_sem, Pl.val, Pl.zero, nullV]) rfl ⟨rfl, ?_, ?_⟩
  · exact (hC.put 1 (.bool true)).alloc _
  · exact grownBy_tr (grownBy_set w g 1 _) (World.grownBy_alloc _ _ _)

theorem place_any (k : UInt8) (c : Cu) (hr : c.rest.length ≤ 1000000) (g : Nat) (w : World) (hC : CuAt w g c) :
    Calls Tryd.prog 33 #[.pointer (some ⟨g, 0, none⟩), .int .u8 (k.toNat : Int)] w fun e w' => e = .returned (c.place k).1.val ∧ CuAt w' g (c.place k).2 ∧ w.grownBy w' (some g) := by
  by_cases h1 : k = 114
  · subst h1; exact place_row c hr g w hC
  by_cases h2 : k = 117
  · subst h2; exact place_uniq c hr g w hC
  by_cases h3 : k = 102
  · subst h3; exact place_ref c hr g w hC
  by_cases h4 : k = 116
  · subst h4; exact place_tab c hr g w hC
  exact place_else k h1 h2 h3 h4 c g w hC

theorem put10_below {w0 w : World} {R : Nat} (h : Below R w0 w) (v0 v1 v2 v3 v4 v5 v6 v7 v8 v9 : Value) : Below R w0 (put10 w R v0 v1 v2 v3 v4 v5 v6 v7 v8 v9) :=
  ((((((((((h.setCell (p := ⟨R, 0, none⟩) (Nat.le_refl _) v0).setCell (p := ⟨R, 1, none⟩) (Nat.le_refl _) v1).setCell (p := ⟨R, 2, none⟩) (Nat.le_refl _) v2).setCell (p := ⟨R, 3, none⟩) (Nat.le_refl _) v3).setCell (p := ⟨R, 4, none⟩) (Nat.le_refl _) v4).setCell (p := ⟨R, 5, none⟩) (Nat.le_refl _) v5).setCell (p := ⟨R, 6, none⟩) (Nat.le_refl _) v6).setCell (p := ⟨R, 7, none⟩) (Nat.le_refl _) v7).setCell (p := ⟨R, 8, none⟩) (Nat.le_refl _) v8).setCell (p := ⟨R, 9, none⟩) (Nat.le_refl _) v9)

def parseRes : Option Pl → Value
  | some p => .tuple #[p.val, .int .i64 0]
  | none => .tuple #[Pl.zero.val, .int .i64 4]

set_option maxRecDepth 100000 in
set_option maxHeartbeats 3200000 in
theorem parse_any (s : List UInt8) (hs : s.length ≤ 1000000) (w : World) :
    Calls Tryd.prog 21 #[.string ⟨s.toArray⟩] w fun e w' => e = .returned (parseRes (parseK s)) ∧ Below w.heap.size w w' := by
  cases s with
  | nil =>
    go_enter Tryd.func21, Tryd.ntmps21
    go_wp2_with fail
    refine bodyPost_ret (v := parseRes none) (by simp [results, Tryd.results21, go_sem, parseRes, Pl.val, Pl.zero, nullV]) rfl ⟨rfl, below_box _ _⟩
  | cons a r =>
    obtain ⟨z, hz⟩ : ∃ z, a :: r = z := ⟨_, rfl⟩
    have hzl : z.length = r.length + 1 := by rw [← hz]; rfl
    have hrl : r.length ≤ 999999 := by simp at hs; omega
    have hx1 : (ByteArray.mk z.toArray).extract 1 (r.length + 1) = ⟨r.toArray⟩ := by rw [← hzl, extract_drop, ← hz]; rfl
    have hix := fun i h w => run_index_list (P := Tryd.prog) 9 z i 0 a.toNat Tryd.underlying9 h (by omega) (by rw [← hz]; rfl) w
    have hz0 : z.isEmpty = false := by rw [← hz]; rfl
    have hz1 : (1 : Int) ≤ z.length := by omega
    have hP : parseK z = if (Cu.place ⟨r, false⟩ a).2.bad = true ∨ (Cu.place ⟨r, false⟩ a).2.rest ≠ [] then none else some (Cu.place ⟨r, false⟩ a).1 := by rw [← hz]; rfl
    have HM := Lib.hid (fun W g (h : CuAt W g ⟨r, false⟩) => place_any a ⟨r, false⟩ (show r.length ≤ 1000000 by omega) g W h)
    rw [hz]
    clear hs hz
    generalize Cu.place ⟨r, false⟩ a = x at hP HM
    obtain ⟨⟨p0, p1, p2, ⟨p3, p4, p5⟩, p6, ⟨p7, p8, p9⟩⟩, ⟨q, bad⟩⟩ := x
    simp only at hP HM
    have hA0 := (At.fresh w 32 #[.int .u8 0, .string ⟨#[]⟩, .string ⟨#[]⟩, .int .i64 0, .int .i64 0, .string ⟨#[]⟩, .string ⟨#[]⟩, .int .i64 0, .int .i64 0, .string ⟨#[]⟩]).alloc (.cells #[.string ⟨r.toArray⟩, .bool false] 46)
    have hC0 : CuAt ((w.alloc (.cells #[.int .u8 0, .string ⟨#[]⟩, .string ⟨#[]⟩, .int .i64 0, .int .i64 0, .string ⟨#[]⟩, .string ⟨#[]⟩, .int .i64 0, .int .i64 0, .string ⟨#[]⟩] 32)).alloc (.cells #[.string ⟨r.toArray⟩, .bool false] 46)) (w.heap.size + 1) ⟨r, false⟩ := by
      have := At.fresh (w.alloc (.cells #[.int .u8 0, .string ⟨#[]⟩, .string ⟨#[]⟩, .int .i64 0, .int .i64 0, .string ⟨#[]⟩, .string ⟨#[]⟩, .int .i64 0, .int .i64 0, .string ⟨#[]⟩] 32)) 46 #[.string ⟨r.toArray⟩, .bool false]
      unfold CuAt
      simpa using this
    have b0 := below_box2 w (.cells #[.int .u8 0, .string ⟨#[]⟩, .string ⟨#[]⟩, .int .i64 0, .int .i64 0, .string ⟨#[]⟩, .string ⟨#[]⟩, .int .i64 0, .int .i64 0, .string ⟨#[]⟩] 32) (.cells #[.string ⟨r.toArray⟩, .bool false] 46)
    have hcase : (bad = true ∧ Hid (parseK z = none)) ∨ (bad = false ∧ q.isEmpty = false ∧ Hid (parseK z = none)) ∨ (bad = false ∧ q.isEmpty = true ∧ Hid (parseK z = some ⟨p0, p1, p2, ⟨p3, p4, p5⟩, p6, ⟨p7, p8, p9⟩⟩)) := by
      cases bad with
      | true => exact .inl ⟨rfl, Lib.hid (hP.trans (if_pos (.inl rfl)))⟩
      | false =>
        cases q with
        | nil => exact .inr (.inr ⟨rfl, rfl, Lib.hid (hP.trans (if_neg (by simp)))⟩)
        | cons x y => exact .inr (.inl ⟨rfl, rfl, Lib.hid (hP.trans (if_pos (.inr (by simp))))⟩)
    clear hP
    rcases hcase with ⟨rfl, HP⟩ | ⟨rfl, hq, HP⟩ | ⟨rfl, hq, HP⟩
    · rw [HP.out]
      go_enter Tryd.func21, Tryd.ntmps21
      go_wp2_with fail
      refine (HM.out _ _ hC0).mono ?_
      rintro e w1 ⟨rfl, hC1, hg1⟩
      have hA1 := hA0.grown' hg1 (by omega)
      have hb1 : Below w.heap.size w w1 := b0.trans (below_grown hg1 (by omega) (by simp; omega))
      have hC2 := At.alloc hC1 (.cells #[.int .u8 p0, .string ⟨p1.toArray⟩, .string ⟨p2.toArray⟩, .int .i64 p3, .int .i64 p4, .string ⟨p5.toArray⟩, .string ⟨p6.toArray⟩, .int .i64 p7, .int .i64 p8, .string ⟨p9.toArray⟩] 32)
      have hA2 := hA1.alloc (.cells #[.int .u8 p0, .string ⟨p1.toArray⟩, .string ⟨p2.toArray⟩, .int .i64 p3, .int .i64 p4, .string ⟨p5.toArray⟩, .string ⟨p6.toArray⟩, .int .i64 p7, .int .i64 p8, .string ⟨p9.toArray⟩] 32)
      have hb2 := hb1.alloc hb1.size (.cells #[.int .u8 p0, .string ⟨p1.toArray⟩, .string ⟨p2.toArray⟩, .int .i64 p3, .int .i64 p4, .string ⟨p5.toArray⟩, .string ⟨p6.toArray⟩, .int .i64 p7, .int .i64 p8, .string ⟨p9.toArray⟩] 32)
      have n1 : ¬ w.heap.size = w1.heap.size := by have := hA1.lt; omega
      have n2 : ¬ w.heap.size + 1 = w1.heap.size := by have := At.lt hC1; omega
      simp only at hC2
      have d0 := At.cell hA2 0
      have f0 := At.unfrozen hA2 0
      have d1 := At.cell hA2 1
      have f1 := At.unfrozen hA2 1
      have d2 := At.cell hA2 2
      have f2 := At.unfrozen hA2 2
      have d3 := At.cell hA2 3
      have f3 := At.unfrozen hA2 3
      have d4 := At.cell hA2 4
      have f4 := At.unfrozen hA2 4
      have d5 := At.cell hA2 5
      have f5 := At.unfrozen hA2 5
      have d6 := At.cell hA2 6
      have f6 := At.unfrozen hA2 6
      have d7 := At.cell hA2 7
      have f7 := At.unfrozen hA2 7
      have d8 := At.cell hA2 8
      have f8 := At.unfrozen hA2 8
      have d9 := At.cell hA2 9
      have f9 := At.unfrozen hA2 9
      have c0 := At.cell hC2 0
      have c1 := At.cell hC2 1
      simp only [List.getElem?_toArray, List.getElem?_cons_zero, List.getElem?_cons_succ] at c0 c1 d0 d1 d2 d3 d4 d5 d6 d7 d8 d9
      clear hA0 hC0 b0 hA1 hC1 hb1 hg1
      simp only [Pl.val]
      go_wp2_with fail
      refine bodyPost_ret (v := parseRes none) (by simp [results, Tryd.results21, go_sem, parseRes, Pl.val, Pl.zero, nullV, d0, d1, d2, d3, d4, d5, d6, d7, d8, d9]) rfl ⟨rfl, ?_⟩
      exact put10_below hb2 _ _ _ _ _ _ _ _ _ _
    · rw [HP.out]
      go_enter Tryd.func21, Tryd.ntmps21
      go_wp2_with fail
      refine (HM.out _ _ hC0).mono ?_
      rintro e w1 ⟨rfl, hC1, hg1⟩
      have hA1 := hA0.grown' hg1 (by omega)
      have hb1 : Below w.heap.size w w1 := b0.trans (below_grown hg1 (by omega) (by simp; omega))
      have hC2 := At.alloc hC1 (.cells #[.int .u8 p0, .string ⟨p1.toArray⟩, .string ⟨p2.toArray⟩, .int .i64 p3, .int .i64 p4, .string ⟨p5.toArray⟩, .string ⟨p6.toArray⟩, .int .i64 p7, .int .i64 p8, .string ⟨p9.toArray⟩] 32)
      have hA2 := hA1.alloc (.cells #[.int .u8 p0, .string ⟨p1.toArray⟩, .string ⟨p2.toArray⟩, .int .i64 p3, .int .i64 p4, .string ⟨p5.toArray⟩, .string ⟨p6.toArray⟩, .int .i64 p7, .int .i64 p8, .string ⟨p9.toArray⟩] 32)
      have hb2 := hb1.alloc hb1.size (.cells #[.int .u8 p0, .string ⟨p1.toArray⟩, .string ⟨p2.toArray⟩, .int .i64 p3, .int .i64 p4, .string ⟨p5.toArray⟩, .string ⟨p6.toArray⟩, .int .i64 p7, .int .i64 p8, .string ⟨p9.toArray⟩] 32)
      have n1 : ¬ w.heap.size = w1.heap.size := by have := hA1.lt; omega
      have n2 : ¬ w.heap.size + 1 = w1.heap.size := by have := At.lt hC1; omega
      simp only at hC2
      have d0 := At.cell hA2 0
      have f0 := At.unfrozen hA2 0
      have d1 := At.cell hA2 1
      have f1 := At.unfrozen hA2 1
      have d2 := At.cell hA2 2
      have f2 := At.unfrozen hA2 2
      have d3 := At.cell hA2 3
      have f3 := At.unfrozen hA2 3
      have d4 := At.cell hA2 4
      have f4 := At.unfrozen hA2 4
      have d5 := At.cell hA2 5
      have f5 := At.unfrozen hA2 5
      have d6 := At.cell hA2 6
      have f6 := At.unfrozen hA2 6
      have d7 := At.cell hA2 7
      have f7 := At.unfrozen hA2 7
      have d8 := At.cell hA2 8
      have f8 := At.unfrozen hA2 8
      have d9 := At.cell hA2 9
      have f9 := At.unfrozen hA2 9
      have c0 := At.cell hC2 0
      have c1 := At.cell hC2 1
      simp only [List.getElem?_toArray, List.getElem?_cons_zero, List.getElem?_cons_succ] at c0 c1 d0 d1 d2 d3 d4 d5 d6 d7 d8 d9
      clear hA0 hC0 b0 hA1 hC1 hb1 hg1
      simp only [Pl.val]
      go_wp2_with fail
      refine bodyPost_ret (v := parseRes none) (by simp [results, Tryd.results21, go_sem, parseRes, Pl.val, Pl.zero, nullV, d0, d1, d2, d3, d4, d5, d6, d7, d8, d9]) rfl ⟨rfl, ?_⟩
      exact put10_below hb2 _ _ _ _ _ _ _ _ _ _
    · rw [HP.out]
      go_enter Tryd.func21, Tryd.ntmps21
      go_wp2_with fail
      refine (HM.out _ _ hC0).mono ?_
      rintro e w1 ⟨rfl, hC1, hg1⟩
      have hA1 := hA0.grown' hg1 (by omega)
      have hb1 : Below w.heap.size w w1 := b0.trans (below_grown hg1 (by omega) (by simp; omega))
      have hC2 := At.alloc hC1 (.cells #[.int .u8 p0, .string ⟨p1.toArray⟩, .string ⟨p2.toArray⟩, .int .i64 p3, .int .i64 p4, .string ⟨p5.toArray⟩, .string ⟨p6.toArray⟩, .int .i64 p7, .int .i64 p8, .string ⟨p9.toArray⟩] 32)
      have hA2 := hA1.alloc (.cells #[.int .u8 p0, .string ⟨p1.toArray⟩, .string ⟨p2.toArray⟩, .int .i64 p3, .int .i64 p4, .string ⟨p5.toArray⟩, .string ⟨p6.toArray⟩, .int .i64 p7, .int .i64 p8, .string ⟨p9.toArray⟩] 32)
      have hb2 := hb1.alloc hb1.size (.cells #[.int .u8 p0, .string ⟨p1.toArray⟩, .string ⟨p2.toArray⟩, .int .i64 p3, .int .i64 p4, .string ⟨p5.toArray⟩, .string ⟨p6.toArray⟩, .int .i64 p7, .int .i64 p8, .string ⟨p9.toArray⟩] 32)
      have n1 : ¬ w.heap.size = w1.heap.size := by have := hA1.lt; omega
      have n2 : ¬ w.heap.size + 1 = w1.heap.size := by have := At.lt hC1; omega
      simp only at hC2
      have d0 := At.cell hA2 0
      have f0 := At.unfrozen hA2 0
      have d1 := At.cell hA2 1
      have f1 := At.unfrozen hA2 1
      have d2 := At.cell hA2 2
      have f2 := At.unfrozen hA2 2
      have d3 := At.cell hA2 3
      have f3 := At.unfrozen hA2 3
      have d4 := At.cell hA2 4
      have f4 := At.unfrozen hA2 4
      have d5 := At.cell hA2 5
      have f5 := At.unfrozen hA2 5
      have d6 := At.cell hA2 6
      have f6 := At.unfrozen hA2 6
      have d7 := At.cell hA2 7
      have f7 := At.unfrozen hA2 7
      have d8 := At.cell hA2 8
      have f8 := At.unfrozen hA2 8
      have d9 := At.cell hA2 9
      have f9 := At.unfrozen hA2 9
      have c0 := At.cell hC2 0
      have c1 := At.cell hC2 1
      simp only [List.getElem?_toArray, List.getElem?_cons_zero, List.getElem?_cons_succ] at c0 c1 d0 d1 d2 d3 d4 d5 d6 d7 d8 d9
      clear hA0 hC0 b0 hA1 hC1 hb1 hg1
      simp only [Pl.val]
      go_wp2_with fail
      refine bodyPost_ret (v := parseRes (some ⟨p0, p1, p2, ⟨p3, p4, p5⟩, p6, ⟨p7, p8, p9⟩⟩)) (by simp [results, Tryd.results21, go_sem, parseRes, Pl.val, d0, d1, d2, d3, d4, d5, d6, d7, d8, d9]) rfl ⟨rfl, ?_⟩
      exact put10_below hb2 _ _ _ _ _ _ _ _ _ _
end Go.Proofs.YtcjbnpeopalbfaaDoor
