/- The walk of the law ValueCuts. -/
import Derived.Test.YtnlfemfkjjjdhaaGreatDoorValF
import Derived.Test.YtnlfemfkjjjdhaaGreatDoorValI
namespace Go.Proofs.YtnlfemfkjjjdhaaGreatDoor
open Go.RowKit

theorem beg_iff (k s : List UInt8) : (((ByteArray.mk s.toArray).extract 0 k.length).toList == k) = decide (s = k ++ s.drop k.length) := by
  rw [extract_take]
  have e : (ByteArray.mk (s.take k.length).toArray).toList = s.take k.length := by simp
  rw [e, Bool.eq_iff_iff, beq_iff_eq, decide_eq_true_iff]
  constructor
  · intro h1
    have := List.take_append_drop k.length s
    rw [h1] at this
    exact this.symm
  · intro h1
    rw [h1]
    simp

set_option maxRecDepth 100000 in
set_option maxHeartbeats 3200000 in
theorem valueCuts_main (s : List UInt8) (v : Vl) (w : World) (ht : Tb w) (hs : s.length ≤ maxLen) (hv : v.Ok) :
    Calls Tryz.prog 4 #[.string ⟨s.toArray⟩, v.val] w fun e w' => e = .returned (.bool true) ∧ Below w.heap.size w w' := by
  have hsl : s.length ≤ 9223372036854775807 := by unfold maxLen at hs; simp at hs; omega
  obtain ⟨k, n, t⟩ := v
  have HV := Lib.hid hv
  clear hv hs
  show Calls _ _ #[.string ⟨s.toArray⟩, .agg #[.int .i64 k, .int .i64 n, .string ⟨t.toArray⟩]] w _
  have b0 := below_box w (.cells #[.int .i64 k, .int .i64 n, .string ⟨t.toArray⟩] 23)
  by_cases h200 : s.length ≤ 200
  · have h200' : decide ((200 : Int) < (s.length : Int)) = false := by simp; omega
    go_enter Tryz.func4, Tryz.ntmps4
    go_wp2_with fail
    refine (alive_any _ (ht.below b0)).mono ?_
    rintro e w1 ⟨rfl, b1⟩
    obtain ⟨hA1, hb1⟩ := boxed k n t b1
    have c0 : w1.cell? ⟨w.heap.size, 0, none⟩ = some (.int .i64 k) := At.cell hA1 0
    have c1 : w1.cell? ⟨w.heap.size, 1, none⟩ = some (.int .i64 n) := At.cell hA1 1
    have c2 : w1.cell? ⟨w.heap.size, 2, none⟩ = some (.string ⟨t.toArray⟩) := At.cell hA1 2
    go_wp2_with fail
    refine (great_any _ _ _ _ _ (Vals.one w1 ⟨k, n, t⟩) (by intro v hv; simp at hv; subst hv; exact HV.out) (by unfold maxLen; omega)).mono ?_
    rintro e w2 ⟨rfl, b2⟩
    have b2' := below_in (below_box w1 _) b2
    have hA2 := hA1.below b2' hA1.lt
    have hb2 := below_in hb1 b2'
    clear b0 b1 b2 b2' c0 c1 c2 hA1 hb1
    cases hgr : greatB [⟨k, n, t⟩] with
    | true =>
      go_wp2_with fail
      go_ret
      exact ⟨rfl, hb2⟩
    | false =>
    clear hgr
    go_wp2_with fail
    refine (cut_any s (by omega) _).mono ?_
    rintro e w3 ⟨rfl, b3⟩
    have hA3 := hA2.below b3 hA2.lt
    have hb3 := below_in hb2 b3
    have hCK : goodV ⟨k, n, t⟩ = true → cutV s = none → (((ByteArray.mk s.toArray).extract 0 (keyV ⟨k, n, t⟩).length).toList == keyV ⟨k, n, t⟩) = false := fun hg hn => by
      rw [beg_iff, decide_eq_false]
      intro e
      have := cut_key hg HV.out.num (s.drop (keyV ⟨k, n, t⟩).length)
      rw [← e, hn] at this
      cases this
    have hCV : goodV ⟨k, n, t⟩ = true → cutV (keyV ⟨k, n, t⟩ ++ s) = some (⟨k, n, t⟩, s) := fun hg => cut_key hg HV.out.num s
    have HCK := Lib.hid hCK
    have HCV := Lib.hid hCV
    have hkl := esc_len2 ⟨k, n, t⟩
    clear hCK hCV b3 hA2 hb2
    cases hcs : cutV s with
    | none =>
      rw [cutRes_none]
      have hA4 := hA3.alloc (.cells #[.int .i64 0, .int .i64 0, .string ⟨#[]⟩] 23)
      have hb4 : Below w.heap.size w (w3.alloc (.cells #[.int .i64 0, .int .i64 0, .string ⟨#[]⟩] 23)) := hb3.alloc hb3.size _
      have c0 : (w3.alloc (.cells #[.int .i64 0, .int .i64 0, .string ⟨#[]⟩] 23)).cell? ⟨w.heap.size, 0, none⟩ = some (.int .i64 k) := At.cell hA4 0
      have c1 : (w3.alloc (.cells #[.int .i64 0, .int .i64 0, .string ⟨#[]⟩] 23)).cell? ⟨w.heap.size, 1, none⟩ = some (.int .i64 n) := At.cell hA4 1
      have c2 : (w3.alloc (.cells #[.int .i64 0, .int .i64 0, .string ⟨#[]⟩] 23)).cell? ⟨w.heap.size, 2, none⟩ = some (.string ⟨t.toArray⟩) := At.cell hA4 2
      go_wp2_with fail
      refine (rgood_any ⟨k, n, t⟩ HV.out _).mono ?_
      rintro e w4 ⟨rfl, b4⟩
      have hA5 := hA4.below b4 hA4.lt
      have hb5 := below_in hb4 b4
      clear c0 c1 c2 b4
      cases hg : goodV ⟨k, n, t⟩ with
      | false =>
        go_wp2_with fail
        go_ret
        exact ⟨rfl, hb5⟩
      | true =>
        have c0 : w4.cell? ⟨w.heap.size, 0, none⟩ = some (.int .i64 k) := At.cell hA5 0
        have c1 : w4.cell? ⟨w.heap.size, 1, none⟩ = some (.int .i64 n) := At.cell hA5 1
        have c2 : w4.cell? ⟨w.heap.size, 2, none⟩ = some (.string ⟨t.toArray⟩) := At.cell hA5 2
        go_wp2_with fail
        refine (rkey_any ⟨k, n, t⟩ HV.out _).mono ?_
        rintro e w5 ⟨rfl, b5⟩
        have hA6 := hA5.below b5 hA5.lt
        have hb6 := below_in hb5 b5
        have hbeg := HCK.out hg hcs
        have hcv := HCV.out hg
        obtain ⟨x, hx⟩ : ∃ x, keyV ⟨k, n, t⟩ = x := ⟨_, rfl⟩
        rw [hx] at hbeg hcv hkl ⊢
        have HC := Lib.hid hcv
        have happ := ByteArray.mk_append_mk x s
        clear c0 c1 c2 b5 hcv hx
        go_wp2_with fail
        first | rw [happ] | skip
        refine (cut_any (x ++ s) (by simp; omega) _).mono ?_
        rintro e w6 ⟨rfl, b6⟩
        rw [HC.out, cutRes_some]
        have hA7 := hA6.below b6 hA6.lt
        have hb7 := below_in hb6 b6
        have hA8 := hA7.alloc (.cells #[.int .i64 k, .int .i64 n, .string ⟨t.toArray⟩] 23)
        have c0 : (w6.alloc (.cells #[.int .i64 k, .int .i64 n, .string ⟨t.toArray⟩] 23)).cell? ⟨w.heap.size, 0, none⟩ = some (.int .i64 k) := At.cell hA8 0
        have c1 : (w6.alloc (.cells #[.int .i64 k, .int .i64 n, .string ⟨t.toArray⟩] 23)).cell? ⟨w.heap.size, 1, none⟩ = some (.int .i64 n) := At.cell hA8 1
        have c2 : (w6.alloc (.cells #[.int .i64 k, .int .i64 n, .string ⟨t.toArray⟩] 23)).cell? ⟨w.heap.size, 2, none⟩ = some (.string ⟨t.toArray⟩) := At.cell hA8 2
        clear hA3 hA4 hA5 hA6 hA7 happ
        by_cases hl : s.length < x.length
        · clear hbeg
          go_wp2_with fail
          go_ret
          exact ⟨rfl, hb7.alloc hb7.size _⟩
        · have hbg := hbeg
          clear hbeg
          go_wp2_with fail
          go_ret
          exact ⟨rfl, hb7.alloc hb7.size _⟩
    | some vr =>
      obtain ⟨⟨kx, nx, tx⟩, r⟩ := vr
      rw [cutRes_some]
      obtain ⟨gx, ex, ix⟩ := cut_some hcs
      have okx : (Vl.mk kx nx tx).Ok := by
        refine ⟨?_, ix, ?_⟩
        · have := (goodV_iff _).1 gx
          simp only at this
          show I64 kx
          unfold I64
          omega
        · have h2 := congrArg List.length ex
          rcases (goodV_iff _).1 gx with ⟨_, _, h⟩ | ⟨_, h⟩ | ⟨_, h, _⟩ | ⟨_, _, h⟩
          · simp only at h; show tx.length ≤ maxLen; rw [h]; unfold maxLen; simp
          · simp only at h; show tx.length ≤ maxLen; rw [h]; unfold maxLen; simp
          · simp only at h; show tx.length ≤ maxLen; rw [h]; unfold maxLen; simp
          · simp only at h; show tx.length ≤ maxLen; unfold maxLen; omega
      have HOX := Lib.hid okx
      have hA4 := hA3.alloc (.cells #[.int .i64 kx, .int .i64 nx, .string ⟨tx.toArray⟩] 23)
      have hX4 := At.fresh w3 23 #[.int .i64 kx, .int .i64 nx, .string ⟨tx.toArray⟩]
      have hb4 : Below w.heap.size w (w3.alloc (.cells #[.int .i64 kx, .int .i64 nx, .string ⟨tx.toArray⟩] 23)) := hb3.alloc hb3.size _
      clear okx hcs ix
      go_wp2_with fail
      refine (rgood_any ⟨kx, nx, tx⟩ HOX.out _).mono ?_
      rintro e w4 ⟨rfl, b4⟩
      rw [gx]
      have hA5 := hA4.below b4 hA4.lt
      have hX5 := hX4.below b4 hX4.lt
      have hb5 := below_in hb4 b4
      have x0 : w4.cell? ⟨w3.heap.size, 0, none⟩ = some (.int .i64 kx) := At.cell hX5 0
      have x1 : w4.cell? ⟨w3.heap.size, 1, none⟩ = some (.int .i64 nx) := At.cell hX5 1
      have x2 : w4.cell? ⟨w3.heap.size, 2, none⟩ = some (.string ⟨tx.toArray⟩) := At.cell hX5 2
      go_wp2_with fail
      refine (rkey_any ⟨kx, nx, tx⟩ HOX.out _).mono ?_
      rintro e w5 ⟨rfl, b5⟩
      have hA6 := hA5.below b5 hA5.lt
      have hb6 := below_in hb5 b5
      have hlx := esc_len2 ⟨kx, nx, tx⟩
      have hlr : r.length ≤ 200 := by have := congrArg List.length ex; simp at this; omega
      obtain ⟨y, hy⟩ : ∃ y, keyV ⟨kx, nx, tx⟩ = y := ⟨_, rfl⟩
      rw [hy] at ex hlx ⊢
      have happ0 : ByteArray.mk y.toArray ++ ByteArray.mk r.toArray = ByteArray.mk s.toArray := by rw [ByteArray.mk_append_mk, ex]
      clear x0 x1 x2 b4 b5 hy ex
      have c0 : w5.cell? ⟨w.heap.size, 0, none⟩ = some (.int .i64 k) := At.cell hA6 0
      have c1 : w5.cell? ⟨w.heap.size, 1, none⟩ = some (.int .i64 n) := At.cell hA6 1
      have c2 : w5.cell? ⟨w.heap.size, 2, none⟩ = some (.string ⟨t.toArray⟩) := At.cell hA6 2
      go_wp2_with fail
      refine (rgood_any ⟨k, n, t⟩ HV.out _).mono ?_
      rintro e w6 ⟨rfl, b6⟩
      have hA7 := hA6.below b6 hA6.lt
      have hb7 := below_in hb6 b6
      clear c0 c1 c2 b6
      cases hg : goodV ⟨k, n, t⟩ with
      | false =>
        go_wp2_with fail
        go_ret
        exact ⟨rfl, hb7⟩
      | true =>
        have c0 : w6.cell? ⟨w.heap.size, 0, none⟩ = some (.int .i64 k) := At.cell hA7 0
        have c1 : w6.cell? ⟨w.heap.size, 1, none⟩ = some (.int .i64 n) := At.cell hA7 1
        have c2 : w6.cell? ⟨w.heap.size, 2, none⟩ = some (.string ⟨t.toArray⟩) := At.cell hA7 2
        go_wp2_with fail
        refine (rkey_any ⟨k, n, t⟩ HV.out _).mono ?_
        rintro e w7 ⟨rfl, b7⟩
        have hA8 := hA7.below b7 hA7.lt
        have hb8 := below_in hb7 b7
        have hcv := HCV.out hg
        obtain ⟨x, hx⟩ : ∃ x, keyV ⟨k, n, t⟩ = x := ⟨_, rfl⟩
        rw [hx] at hcv hkl ⊢
        have HC := Lib.hid hcv
        have happ := ByteArray.mk_append_mk x s
        clear c0 c1 c2 b7 hcv hx happ0
        go_wp2_with fail
        first | rw [happ] | skip
        refine (cut_any (x ++ s) (by simp; omega) _).mono ?_
        rintro e w8 ⟨rfl, b8⟩
        rw [HC.out, cutRes_some]
        have hA9 := hA8.below b8 hA8.lt
        have hb9 := below_in hb8 b8
        have hA10 := hA9.alloc (.cells #[.int .i64 k, .int .i64 n, .string ⟨t.toArray⟩] 23)
        have c0 : (w8.alloc (.cells #[.int .i64 k, .int .i64 n, .string ⟨t.toArray⟩] 23)).cell? ⟨w.heap.size, 0, none⟩ = some (.int .i64 k) := At.cell hA10 0
        have c1 : (w8.alloc (.cells #[.int .i64 k, .int .i64 n, .string ⟨t.toArray⟩] 23)).cell? ⟨w.heap.size, 1, none⟩ = some (.int .i64 n) := At.cell hA10 1
        have c2 : (w8.alloc (.cells #[.int .i64 k, .int .i64 n, .string ⟨t.toArray⟩] 23)).cell? ⟨w.heap.size, 2, none⟩ = some (.string ⟨t.toArray⟩) := At.cell hA10 2
        clear hA3 hA4 hA5 hA6 hA7 hA8 hA9 happ hX4 hX5
        go_wp2_with fail
        go_ret
        exact ⟨rfl, hb9.alloc hb9.size _⟩
  · have h200' : decide ((200 : Int) < (s.length : Int)) = true := by simp; omega
    go_enter Tryz.func4, Tryz.ntmps4
    go_wp2_with fail
    refine (alive_any _ (ht.below b0)).mono ?_
    rintro e w1 ⟨rfl, b1⟩
    go_wp2_with fail
    go_ret
    exact ⟨rfl, below_in b0 b1⟩
end Go.Proofs.YtnlfemfkjjjdhaaGreatDoor
