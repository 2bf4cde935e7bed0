/- The walk of the law CellKeys. -/
import Derived.Test.YtcjbnpeopalbfaaDoorCellL
namespace Go.Proofs.YtcjbnpeopalbfaaDoor
open Go.RowKit

theorem ok_bad : (Vl.mk (-1) 0 []).Ok := ⟨by show I64 (-1); unfold I64; decide, i64_nought, by unfold maxLen; decide⟩
theorem key_bad : keyV ⟨-1, 0, []⟩ = [] := keyV_bad (by decide)
theorem row_bad (a : List UInt8) : rowK a ⟨-1, 0, []⟩ = rowsK a := by unfold rowK; rw [key_bad, List.append_nil]
theorem ref_bad (a : List UInt8) (v : Vl) (b c : List UInt8) : refK a v b c ⟨-1, 0, []⟩ = refsK a v b c := by unfold refK; rw [key_bad, List.append_nil]

set_option maxRecDepth 100000 in
set_option maxHeartbeats 3200000 in
theorem cellKeys_main (a b c : List UInt8) (x y : Vl) (w : World) (ht : Lens w) (ha : a.length ≤ maxLen) (hb : b.length ≤ maxLen) (hc : c.length ≤ maxLen) (hx : x.Ok) (hy : y.Ok) :
    Calls Tryd.prog 3 #[.string ⟨a.toArray⟩, .string ⟨b.toArray⟩, .string ⟨c.toArray⟩, x.val, y.val] w fun e w' => e = .returned (.bool true) ∧ Below w.heap.size w w' := by
  obtain ⟨k, n, t⟩ := x
  obtain ⟨j, m, s⟩ := y
  have HX := Lib.hid hx
  have HY := Lib.hid hy
  have HA := Lib.hid ha
  have HB := Lib.hid hb
  have HC := Lib.hid hc
  clear hx hy ha hb hc
  show Calls _ _ #[_, _, _, .agg #[.int .i64 k, .int .i64 n, .string ⟨t.toArray⟩], .agg #[.int .i64 j, .int .i64 m, .string ⟨s.toArray⟩]] w _
  have p0 : Pair ((w.alloc (.cells #[.int .i64 k, .int .i64 n, .string ⟨t.toArray⟩] 23)).alloc (.cells #[.int .i64 j, .int .i64 m, .string ⟨s.toArray⟩] 23)) w.heap.size (w.heap.size + 1) ⟨k, n, t⟩ ⟨j, m, s⟩ := Pair.fresh w _ _ _ _ _ _
  have b0 := below_box2 w (.cells #[.int .i64 k, .int .i64 n, .string ⟨t.toArray⟩] 23) (.cells #[.int .i64 j, .int .i64 m, .string ⟨s.toArray⟩] 23)
  go_enter Tryd.func3, Tryd.ntmps3
  go_wp2_with fail
  refine (alive_any _ (ht.below b0)).mono ?_
  rintro e w1 ⟨rfl, b1⟩
  have p1 := p0.below b1
  have hb1 := below_in b0 b1
  clear p0 b0 b1
  obtain ⟨a0, a1, a2, c0, c1, c2⟩ := p1.cells
  go_wp2_with fail
  · go_ret
    exact ⟨rfl, hb1⟩
  clear a0 a1 a2 c0 c1 c2
  have hD : Below w1.heap.size w1 w1.drew := (Below.refl _ _).drew
  have pD := p1.below hD
  have S0 := pD.cells
  have hbD := below_in hb1 hD
  clear p1 hD hb1
  go_region_held3 (fun w' => w'.cell? ⟨w.heap.size, 0, none⟩ = some (.int .i64 k) ∧ w'.cell? ⟨w.heap.size, 1, none⟩ = some (.int .i64 n) ∧ w'.cell? ⟨w.heap.size, 2, none⟩ = some (.string ⟨t.toArray⟩) ∧ w'.cell? ⟨w.heap.size + 1, 0, none⟩ = some (.int .i64 j) ∧ w'.cell? ⟨w.heap.size + 1, 1, none⟩ = some (.int .i64 m) ∧ w'.cell? ⟨w.heap.size + 1, 2, none⟩ = some (.string ⟨s.toArray⟩))
    (first | exact S0 | exact S2 | exact S3 | exact S4 | exact S5 | exact S6 | exact S7 | exact S8 | exact S9 | exact S10 | exact S11 | exact S12 | exact S13)
    (first
      | (go_at_call 10; refine (ofRow_any a HA.out ⟨k, n, t⟩ HX.out w1.drew (ht.below hbD)).mono ?_; rintro e w2 ⟨rfl, b2⟩; have p2 := pD.below b2; have S2 := p2.cells; have hb2 := below_in hbD b2)
      | (go_at_call_of 11 (Value.string ⟨t.toArray⟩); refine (rrow_any a HA.out ⟨k, n, t⟩ HX.out w2).mono ?_; rintro e w3 ⟨rfl, b3⟩; have p3 := p2.below b3; have S3 := p3.cells; have hb3 := below_in hb2 b3)
      | (go_at_call 12; refine (ofUniq_any a b HA.out HB.out ⟨k, n, t⟩ HX.out w3 (ht.below hb3)).mono ?_; rintro e w4 ⟨rfl, b4⟩; have p4 := p3.below b4; have S4 := p4.cells; have hb4 := below_in hb3 b4)
      | (go_at_call 13; refine (runiq_any a b HA.out HB.out ⟨k, n, t⟩ HX.out w4).mono ?_; rintro e w5 ⟨rfl, b5⟩; have p5 := p4.below b5; have S5 := p5.cells; have hb5 := below_in hb4 b5)
      | (go_at_call 14; refine (ofRef_any a b c HA.out HB.out HC.out ⟨k, n, t⟩ HX.out ⟨j, m, s⟩ HY.out w5 (ht.below hb5)).mono ?_; rintro e w6 ⟨rfl, b6⟩; have p6 := p5.below b6; have S6 := p6.cells; have hb6 := below_in hb5 b6)
      | (go_at_call_of 15 (Value.string ⟨s.toArray⟩); refine (rref_any a b c HA.out HB.out HC.out ⟨k, n, t⟩ HX.out ⟨j, m, s⟩ HY.out w6).mono ?_; rintro e w7 ⟨rfl, b7⟩; have p7 := p6.below b7; have S7 := p7.cells; have hb7 := below_in hb6 b7)
      | (go_at_call 16; refine (ofTable_any a HA.out w7 (ht.below hb7)).mono ?_; rintro e w8 ⟨rfl, b8⟩; have p8 := p7.below b8; have S8 := p8.cells; have hb8 := below_in hb7 b8)
      | (go_at_call 17; refine (rtable_any a HA.out w8).mono ?_; rintro e w9 ⟨rfl, b9⟩; have p9 := p8.below b9; have S9 := p9.cells; have hb9 := below_in hb8 b9)
      | (go_at_call 18; refine (rows_any a HA.out w9 (ht.below hb9)).mono ?_; rintro e w10 ⟨rfl, b10⟩; have p10 := p9.below b10; have S10 := p10.cells; have hb10 := below_in hb9 b10)
      | (go_at_call_of 11 (Value.string ⟨#[]⟩); refine (rrow_any a HA.out ⟨-1, 0, []⟩ ok_bad w10).mono ?_; rintro e w11 ⟨rfl, b11⟩; rw [row_bad]; have p11 := p10.below b11; have S11 := p11.cells; have hb11 := below_in hb10 b11)
      | (go_at_call 19; refine (refs_any a b c HA.out HB.out HC.out ⟨k, n, t⟩ HX.out w11 (ht.below hb11)).mono ?_; rintro e w12 ⟨rfl, b12⟩; have p12 := p11.below b12; have S12 := p12.cells; have hb12 := below_in hb11 b12)
      | (go_at_call_of 15 (Value.string ⟨#[]⟩); refine (rref_any a b c HA.out HB.out HC.out ⟨k, n, t⟩ HX.out ⟨-1, 0, []⟩ ok_bad w12).mono ?_; rintro e w13 ⟨rfl, b13⟩; rw [ref_bad]; have p13 := p12.below b13; have S13 := p13.cells; have hb13 := below_in hb12 b13))
  all_goals
    go_wp2_with fail
    go_ret
    exact ⟨rfl, hb13⟩
end Go.Proofs.YtcjbnpeopalbfaaDoor
