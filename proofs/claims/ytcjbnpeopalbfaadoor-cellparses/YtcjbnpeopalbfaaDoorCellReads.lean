/- The walk of the law CellReads. -/
import Derived.Test.YtcjbnpeopalbfaaDoorCellL
namespace Go.Proofs.YtcjbnpeopalbfaaDoor
open Go.RowKit

theorem PlAt.cells {w : World} {g : Nat} {p0 : Int} {p1 p2 : List UInt8} {p3 p4 : Int} {p5 p6 : List UInt8} {p7 p8 : Int} {p9 : List UInt8} (h : At w g 32 #[.int .u8 p0, .string ⟨p1.toArray⟩, .string ⟨p2.toArray⟩, .int .i64 p3, .int .i64 p4, .string ⟨p5.toArray⟩, .string ⟨p6.toArray⟩, .int .i64 p7, .int .i64 p8, .string ⟨p9.toArray⟩]) :
    w.cell? ⟨g, 0, none⟩ = some (.int .u8 p0) ∧ w.cell? ⟨g, 1, none⟩ = some (.string ⟨p1.toArray⟩) ∧ w.cell? ⟨g, 2, none⟩ = some (.string ⟨p2.toArray⟩) ∧ w.cell? ⟨g, 3, none⟩ = some (.int .i64 p3) ∧ w.cell? ⟨g, 4, none⟩ = some (.int .i64 p4) ∧ w.cell? ⟨g, 5, none⟩ = some (.string ⟨p5.toArray⟩) ∧ w.cell? ⟨g, 6, none⟩ = some (.string ⟨p6.toArray⟩) ∧ w.cell? ⟨g, 7, none⟩ = some (.int .i64 p7) ∧ w.cell? ⟨g, 8, none⟩ = some (.int .i64 p8) ∧ w.cell? ⟨g, 9, none⟩ = some (.string ⟨p9.toArray⟩) :=
  ⟨At.cell h 0, At.cell h 1, At.cell h 2, At.cell h 3, At.cell h 4, At.cell h 5, At.cell h 6, At.cell h 7, At.cell h 8, At.cell h 9⟩

set_option maxRecDepth 100000 in
set_option maxHeartbeats 3200000 in
theorem cellReads_main (s : List UInt8) (w : World) (ht : Lens w) (hs : s.length ≤ maxLen) :
    Calls Tryd.prog 5 #[.string ⟨s.toArray⟩] w fun e w' => e = .returned (.bool true) ∧ Below w.heap.size w w' := by
  have hsl : s.length ≤ 9223372036854775807 := by unfold maxLen at hs; simpa using hs
  clear hs
  by_cases h200 : s.length ≤ 200
  · have h200' : decide ((200 : Int) < (s.length : Int)) = false := by simp; omega
    have hH0 : homeK s = match parseK s with | some p => if p.kind = 102 then rowK p.table p.key else s | none => s := rfl
    cases hp : parseK s with
    | none =>
      rw [hp] at hH0
      simp only at hH0
      have hH := Lib.hid hH0
      clear hH0
      go_enter Tryd.func5, Tryd.ntmps5
      go_wp2_with fail
      refine (alive_any _ ht).mono ?_
      rintro e w1 ⟨rfl, b1⟩
      go_wp2_with fail
      refine (parse_any s (by omega) w1).mono ?_
      rintro e w2 ⟨rfl, b2⟩
      rw [hp]
      simp only [parseRes, Pl.val, Pl.zero, nullV]
      have hb2 := below_in b1 b2
      have hb3 := hb2.alloc hb2.size (.cells #[.int .u8 0, .string ⟨#[]⟩, .string ⟨#[]⟩, .int .i64 0, .int .i64 0, .string ⟨#[]⟩, .string ⟨#[]⟩, .int .i64 0, .int .i64 0, .string ⟨#[]⟩] 32)
      go_wp2_with fail
      refine (home_any s (by omega) _ (ht.below hb3)).mono ?_
      rintro e w5 ⟨rfl, b5⟩
      rw [hH.out]
      have hb5 := below_in hb3 b5
      go_wp2_with fail
      go_ret
      exact ⟨rfl, hb5⟩
    | some p =>
      have hpp := parse_some hp
      rw [hp] at hH0
      simp only at hH0
      obtain ⟨p0, p1, p2, ⟨p3, p4, p5⟩, p6, ⟨p7, p8, p9⟩⟩ := p
      obtain ⟨l1, l2, l3, g1, g2, i1, i2, his⟩ := hpp
      simp only at hH0 l1 l2 l3 g1 g2 i1 i2 his
      have OK1 := Lib.hid (ok_of_good g1 i1)
      have OK2 := Lib.hid (ok_of_good g2 i2)
      have L1 := Lib.hid (show p1.length ≤ maxLen by unfold maxLen; omega)
      have L2 := Lib.hid (show p2.length ≤ maxLen by unfold maxLen; omega)
      have L3 := Lib.hid (show p6.length ≤ maxLen by unfold maxLen; omega)
      clear l1 l2 l3 g1 g2 i1 i2
      rcases his with ⟨rfl, hK⟩ | ⟨rfl, hK⟩ | ⟨rfl, hK⟩ | ⟨rfl, hK⟩
      · rw [if_neg (by decide)] at hH0
        have hH := Lib.hid hH0
        have HK := Lib.hid hK
        clear hH0 hK
        go_enter Tryd.func5, Tryd.ntmps5
        go_wp2_with fail
        refine (alive_any _ ht).mono ?_
        rintro e w1 ⟨rfl, b1⟩
        go_wp2_with fail
        refine (parse_any s (by omega) w1).mono ?_
        rintro e w2 ⟨rfl, b2⟩
        rw [hp]
        simp only [parseRes, Pl.val]
        have hb2 := below_in b1 b2
        have hb3 := hb2.alloc hb2.size (.cells #[.int .u8 114, .string ⟨p1.toArray⟩, .string ⟨p2.toArray⟩, .int .i64 p3, .int .i64 p4, .string ⟨p5.toArray⟩, .string ⟨p6.toArray⟩, .int .i64 p7, .int .i64 p8, .string ⟨p9.toArray⟩] 32)
        have hA3 := At.fresh w2 32 #[.int .u8 114, .string ⟨p1.toArray⟩, .string ⟨p2.toArray⟩, .int .i64 p3, .int .i64 p4, .string ⟨p5.toArray⟩, .string ⟨p6.toArray⟩, .int .i64 p7, .int .i64 p8, .string ⟨p9.toArray⟩]
        clear b1 b2 hb2
        go_wp2_with fail
        refine (rrow_any p1 L1.out ⟨p3, p4, p5⟩ OK1.out _).mono ?_
        rintro e w4 ⟨rfl, b4⟩
        rw [HK.out]
        have hb4 := below_in hb3 b4
        go_wp2_with fail
        refine (home_any s (by omega) w4 (ht.below hb4)).mono ?_
        rintro e w5 ⟨rfl, b5⟩
        rw [hH.out]
        have hb5 := below_in hb4 b5
        go_wp2_with fail
        go_ret
        exact ⟨rfl, hb5⟩
      · rw [if_neg (by decide)] at hH0
        have hH := Lib.hid hH0
        have HK := Lib.hid hK
        clear hH0 hK
        go_enter Tryd.func5, Tryd.ntmps5
        go_wp2_with fail
        refine (alive_any _ ht).mono ?_
        rintro e w1 ⟨rfl, b1⟩
        go_wp2_with fail
        refine (parse_any s (by omega) w1).mono ?_
        rintro e w2 ⟨rfl, b2⟩
        rw [hp]
        simp only [parseRes, Pl.val]
        have hb2 := below_in b1 b2
        have hb3 := hb2.alloc hb2.size (.cells #[.int .u8 117, .string ⟨p1.toArray⟩, .string ⟨p2.toArray⟩, .int .i64 p3, .int .i64 p4, .string ⟨p5.toArray⟩, .string ⟨p6.toArray⟩, .int .i64 p7, .int .i64 p8, .string ⟨p9.toArray⟩] 32)
        have hA3 := At.fresh w2 32 #[.int .u8 117, .string ⟨p1.toArray⟩, .string ⟨p2.toArray⟩, .int .i64 p3, .int .i64 p4, .string ⟨p5.toArray⟩, .string ⟨p6.toArray⟩, .int .i64 p7, .int .i64 p8, .string ⟨p9.toArray⟩]
        clear b1 b2 hb2
        go_wp2_with fail
        refine (runiq_any p1 p2 L1.out L2.out ⟨p3, p4, p5⟩ OK1.out _).mono ?_
        rintro e w4 ⟨rfl, b4⟩
        rw [HK.out]
        have hb4 := below_in hb3 b4
        go_wp2_with fail
        refine (home_any s (by omega) w4 (ht.below hb4)).mono ?_
        rintro e w5 ⟨rfl, b5⟩
        rw [hH.out]
        have hb5 := below_in hb4 b5
        go_wp2_with fail
        go_ret
        exact ⟨rfl, hb5⟩
      · rw [if_pos rfl] at hH0
        obtain ⟨r, hr⟩ : ∃ r, rowK p1 ⟨p3, p4, p5⟩ = r := ⟨_, rfl⟩
        rw [hr] at hH0
        have hH := Lib.hid hH0
        have HR := Lib.hid hr
        have HK := Lib.hid hK
        clear hH0 hK hr
        go_enter Tryd.func5, Tryd.ntmps5
        go_wp2_with fail
        refine (alive_any _ ht).mono ?_
        rintro e w1 ⟨rfl, b1⟩
        go_wp2_with fail
        refine (parse_any s (by omega) w1).mono ?_
        rintro e w2 ⟨rfl, b2⟩
        rw [hp]
        simp only [parseRes, Pl.val]
        have hb2 := below_in b1 b2
        have hb3 := hb2.alloc hb2.size (.cells #[.int .u8 102, .string ⟨p1.toArray⟩, .string ⟨p2.toArray⟩, .int .i64 p3, .int .i64 p4, .string ⟨p5.toArray⟩, .string ⟨p6.toArray⟩, .int .i64 p7, .int .i64 p8, .string ⟨p9.toArray⟩] 32)
        have hA3 := At.fresh w2 32 #[.int .u8 102, .string ⟨p1.toArray⟩, .string ⟨p2.toArray⟩, .int .i64 p3, .int .i64 p4, .string ⟨p5.toArray⟩, .string ⟨p6.toArray⟩, .int .i64 p7, .int .i64 p8, .string ⟨p9.toArray⟩]
        clear b1 b2 hb2
        have hD : Below (w2.alloc (.cells #[.int .u8 102, .string ⟨p1.toArray⟩, .string ⟨p2.toArray⟩, .int .i64 p3, .int .i64 p4, .string ⟨p5.toArray⟩, .string ⟨p6.toArray⟩, .int .i64 p7, .int .i64 p8, .string ⟨p9.toArray⟩] 32)).heap.size (w2.alloc (.cells #[.int .u8 102, .string ⟨p1.toArray⟩, .string ⟨p2.toArray⟩, .int .i64 p3, .int .i64 p4, .string ⟨p5.toArray⟩, .string ⟨p6.toArray⟩, .int .i64 p7, .int .i64 p8, .string ⟨p9.toArray⟩] 32)) (w2.alloc (.cells #[.int .u8 102, .string ⟨p1.toArray⟩, .string ⟨p2.toArray⟩, .int .i64 p3, .int .i64 p4, .string ⟨p5.toArray⟩, .string ⟨p6.toArray⟩, .int .i64 p7, .int .i64 p8, .string ⟨p9.toArray⟩] 32)).drew := (Below.refl _ _).drew
        have hAD := hA3.below hD hA3.lt
        have S0 := PlAt.cells hAD
        have hbD := below_in hb3 hD
        clear hD hA3 hb3
        go_wp2_with fail
        generalize (w2.alloc (.cells #[.int .u8 102, .string ⟨p1.toArray⟩, .string ⟨p2.toArray⟩, .int .i64 p3, .int .i64 p4, .string ⟨p5.toArray⟩, .string ⟨p6.toArray⟩, .int .i64 p7, .int .i64 p8, .string ⟨p9.toArray⟩] 32)) = wb at *
        generalize w2.heap.size = B at *
        go_region_held3 (fun w' => w'.cell? ⟨B, 0, none⟩ = some (.int .u8 102) ∧ w'.cell? ⟨B, 1, none⟩ = some (.string ⟨p1.toArray⟩) ∧ w'.cell? ⟨B, 2, none⟩ = some (.string ⟨p2.toArray⟩) ∧ w'.cell? ⟨B, 3, none⟩ = some (.int .i64 p3) ∧ w'.cell? ⟨B, 4, none⟩ = some (.int .i64 p4) ∧ w'.cell? ⟨B, 5, none⟩ = some (.string ⟨p5.toArray⟩) ∧ w'.cell? ⟨B, 6, none⟩ = some (.string ⟨p6.toArray⟩) ∧ w'.cell? ⟨B, 7, none⟩ = some (.int .i64 p7) ∧ w'.cell? ⟨B, 8, none⟩ = some (.int .i64 p8) ∧ w'.cell? ⟨B, 9, none⟩ = some (.string ⟨p9.toArray⟩))
          (first | exact S0 | exact S1 | exact S2 | exact S3)
          (first
            | (go_at_call 15; refine (rref_any p1 p6 p2 L1.out L3.out L2.out ⟨p3, p4, p5⟩ OK1.out ⟨p7, p8, p9⟩ OK2.out wb.drew).mono ?_; rintro e w4 ⟨rfl, b4⟩; rw [HK.out]; have hA4 := hAD.below b4 hAD.lt; have S1 := PlAt.cells hA4; have hb4 := below_in hbD b4)
            | (go_at_call 22; refine (home_any s (by omega) w4 (ht.below hb4)).mono ?_; rintro e w5 ⟨rfl, b5⟩; rw [hH.out]; have hA5 := hA4.below b5 hA4.lt; have S2 := PlAt.cells hA5; have hb5 := below_in hb4 b5)
            | (go_at_call 11; refine (rrow_any p1 L1.out ⟨p3, p4, p5⟩ OK1.out w5).mono ?_; rintro e w6 ⟨rfl, b6⟩; rw [HR.out]; have hA6 := hA5.below b6 hA5.lt; have S3 := PlAt.cells hA6; have hb6 := below_in hb5 b6))
        all_goals
          go_wp2_with fail
          go_ret
          exact ⟨rfl, hb6⟩
      · rw [if_neg (by decide)] at hH0
        have hH := Lib.hid hH0
        have HK := Lib.hid hK
        clear hH0 hK
        go_enter Tryd.func5, Tryd.ntmps5
        go_wp2_with fail
        refine (alive_any _ ht).mono ?_
        rintro e w1 ⟨rfl, b1⟩
        go_wp2_with fail
        refine (parse_any s (by omega) w1).mono ?_
        rintro e w2 ⟨rfl, b2⟩
        rw [hp]
        simp only [parseRes, Pl.val]
        have hb2 := below_in b1 b2
        have hb3 := hb2.alloc hb2.size (.cells #[.int .u8 116, .string ⟨p1.toArray⟩, .string ⟨p2.toArray⟩, .int .i64 p3, .int .i64 p4, .string ⟨p5.toArray⟩, .string ⟨p6.toArray⟩, .int .i64 p7, .int .i64 p8, .string ⟨p9.toArray⟩] 32)
        have hA3 := At.fresh w2 32 #[.int .u8 116, .string ⟨p1.toArray⟩, .string ⟨p2.toArray⟩, .int .i64 p3, .int .i64 p4, .string ⟨p5.toArray⟩, .string ⟨p6.toArray⟩, .int .i64 p7, .int .i64 p8, .string ⟨p9.toArray⟩]
        clear b1 b2 hb2
        go_wp2_with fail
        refine (rtable_any p1 L1.out _).mono ?_
        rintro e w4 ⟨rfl, b4⟩
        rw [HK.out]
        have hb4 := below_in hb3 b4
        go_wp2_with fail
        refine (home_any s (by omega) w4 (ht.below hb4)).mono ?_
        rintro e w5 ⟨rfl, b5⟩
        rw [hH.out]
        have hb5 := below_in hb4 b5
        go_wp2_with fail
        go_ret
        exact ⟨rfl, hb5⟩
  · have h200' : decide ((200 : Int) < (s.length : Int)) = true := by simp; omega
    go_enter Tryd.func5, Tryd.ntmps5
    go_wp2_with fail
    refine (alive_any _ ht).mono ?_
    rintro e w1 ⟨rfl, b1⟩
    go_wp2_with fail
    go_ret
    exact ⟨rfl, b1⟩
end Go.Proofs.YtcjbnpeopalbfaaDoor
