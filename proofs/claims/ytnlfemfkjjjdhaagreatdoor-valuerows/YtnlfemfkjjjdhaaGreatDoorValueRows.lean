/- The walk of the law ValueRows. -/
import Derived.Test.YtnlfemfkjjjdhaaGreatDoorRowE
namespace Go.Proofs.YtnlfemfkjjjdhaaGreatDoor
open Go.RowKit

theorem pick0 (a b : Value) (w : World) : (Instr.index 36 (.agg #[a, b]) (.int .i64 0)).run Tryz.prog w = .ok a w := by kernel_rfl
theorem pick1 (a b : Value) (w : World) : (Instr.index 36 (.agg #[a, b]) (.int .i64 1)).run Tryz.prog w = .ok b w := by kernel_rfl
theorem Owns.keep {w w' : World} {base m : Nat} {e : TypeId} {v : Value} {xs : List UInt8} (h : Owns w base e v xs) (hb : w.grownBy w' (some m)) (hm : v.ownBlock ≠ some m) : Owns w' base e v xs := by
  refine ⟨h.1, ?_⟩
  rcases h.2 with hn | ⟨g, cap, cur, rfl, hb2, hgg, rest⟩
  · exact .inl hn
  · exact .inr ⟨g, cap, cur, rfl, hb2, (hb.block g (Array.getElem?_eq_some_iff.1 hgg).1 (fun e => hm (by rw [← e]; rfl))).trans hgg, rest⟩
theorem Vals.none (w : World) : Vals w none 0 [] := ⟨rfl, fun h => absurd h (by omega)⟩

/-- The two readers' next values, over what was put. -/
theorem step_row {Y s : List UInt8} {vs : List Vl} (hok : ∀ v ∈ vs, v.Ok) (hsm : ∀ v ∈ vs, v.text.length ≤ 200) {k : Nat} (hk : k < vs.length) {p : Nat} {bad : Bool} {q : List UInt8} {f : Bool}
    (hS : Sync (Y ++ s) p bad q f) (hq : bad = false → q = bytesVs (vs.drop k) ++ s) :
    (takeR (Y ++ s) p bad).1 = (takeP q f).1 ∧ Sync (Y ++ s) (takeR (Y ++ s) p bad).2.1 (takeR (Y ++ s) p bad).2.2 (takeP q f).2.1 (takeP q f).2.2 ∧ ((takeR (Y ++ s) p bad).2.2 = false → (takeP q f).2.1 = bytesVs (vs.drop (k + 1)) ++ s) := by
  have hst := (sync_take hS).1
  cases bad with
  | true =>
    obtain ⟨_, ⟨h1, _⟩ | ⟨_, h2, h3⟩⟩ := hS
    · cases h1
    · subst h2 h3
      rw [takeP_end] at hst ⊢
      rw [takeR_bad] at hst ⊢
      exact ⟨rfl, hst, fun h => by cases h⟩
  | false =>
    have e := hq rfl
    obtain ⟨hp, ⟨_, h2, h3⟩ | ⟨h1, _⟩⟩ := hS
    · have hok1 := ok_at hok hk
      have hs1 := small_at hsm hk
      subst h2
      rw [bytesVs_drop hk, List.append_assoc] at e
      have hS2 : Sync (Y ++ s) p false (bytesV (vs.getD k default) ++ (bytesVs (vs.drop (k + 1)) ++ s)) false := by
        rw [← e]; exact ⟨hp, .inl ⟨rfl, rfl, h3⟩⟩
      have h4 := take_put hok1 (by omega) hS2
      rw [← e] at h4
      refine ⟨h4, hst, fun hb => ?_⟩
      have h5 := takeP_bytes hok1 (by omega) (bytesVs (vs.drop (k + 1)) ++ s) false
      rw [← e] at h5
      by_cases hg : goodV (vs.getD k default) = true
      · rw [if_pos hg] at h5
        rw [h5]
      · rw [if_neg hg] at h5
        rw [h5] at hst
        obtain ⟨_, ⟨_, h6, _⟩ | ⟨h6, _⟩⟩ := hst
        · cases h6
        · rw [h6] at hb; cases hb
    · cases h1

set_option maxRecDepth 100000 in
set_option maxHeartbeats 6400000 in
theorem valueRows_main (A : Option Addr) (n cap : Nat) (vs : List Vl) (s : List UInt8) (w : World) (ht : Tb w) (hv : Vals w A n vs) (hok : ∀ v ∈ vs, v.Ok) (hn : n ≤ maxLen) (hs : s.length ≤ maxLen) :
    Calls Tryz.prog 5 #[.slice A n cap, .string ⟨s.toArray⟩] w fun e w' => e = .returned (.bool true) ∧ Below w.heap.size w w' := by
  have hvl := hv.1
  have hsl : s.length ≤ 9223372036854775807 := by unfold maxLen at hs; simp at hs; omega
  clear hs
  go_enter Tryz.func5, Tryz.ntmps5
  go_wp2_with fail
  refine (alive_any _ ht).mono ?_
  rintro e w1 ⟨rfl, b1⟩
  go_wp2_with fail
  refine (great_any A n cap vs w1 (hv.below b1) hok hn).mono ?_
  rintro e w2 ⟨rfl, b2⟩
  have hb2 := below_in b1 b2
  clear b1 b2
  cases hgr : greatB vs with
  | true =>
    go_wp2_with fail
    go_ret
    exact ⟨rfl, hb2⟩
  | false =>
  obtain ⟨hn30, hsm⟩ := small_of hgr
  clear hgr hn
  rw [hvl] at hn30
  by_cases h10 : s.length ≤ 1024
  · have h10' : decide ((1024 : Int) < (s.length : Int)) = false := by simp; omega
    go_wp2_with fail
    refine (vrow_any A n cap vs w2 (hv.below hb2) hok hsm hn30).mono ?_
    rintro e w3 ⟨rfl, b3⟩
    have hb3 := below_in hb2 b3
    go_wp2_with fail
    refine (rrow_any A n cap vs w3 (hv.below hb3) hok hsm hn30).mono ?_
    rintro e w4 ⟨rfl, b4⟩
    have hb4 := below_in hb3 b4
    have hYl : ∀ k, k ≤ n → (bytesVs (vs.take k)).length ≤ 230 * k := by
      intro k
      induction k with
      | zero => intro _; simp [bytesVs]
      | succ k ih =>
        intro hk
        have h1 := ih (by omega)
        have h2 := bytesV_len (ok_at hok (k := k) (by omega)) (small_at hsm (k := k) (by omega))
        rw [bytesVs_take (by omega), List.length_append]
        omega
    have hRl : (rowV vs).length ≤ 8000 := by
      have h1 := hYl n (Nat.le_refl _)
      rw [List.take_of_length_le (by omega)] at h1
      have h2 := enc_len (n := (vs.length : Int)) (by unfold I64; omega)
      unfold rowV
      rw [List.length_append]
      omega
    obtain ⟨rb, hrb⟩ : ∃ rb, rowV vs = rb := ⟨_, rfl⟩
    rw [hrb] at hRl ⊢
    have HYL := Lib.hid hYl
    clear hrb b3 b4 hb2 hb3 hYl
    have hp0 := pick0 (.string ⟨rb.toArray⟩) (.string ⟨s.toArray⟩)
    have hp1 := pick1 (.string ⟨rb.toArray⟩) (.string ⟨s.toArray⟩)
    go_wp2_with fail
    go_loopw [36] (fun i wr => ∃ k : Nat, k ≤ 2 ∧ i = .int .i64 k ∧ Below w.heap.size w wr) (fun i _ => 2 - (intOf i).toNat)
    case atStart => exact ⟨0, by omega, rfl, hb4⟩
    case round =>
      obtain ⟨k, hk, rfl, hb⟩ := hrel
      have hstep : ∀ (t : List UInt8), t.length ≤ 1000000 → Hid (∀ w, Calls Tryz.prog 17 #[.string ⟨t.toArray⟩] w fun e w' => Below w.heap.size w w' ∧
      ((∃ vs A cap, readP t = some vs ∧ vs.length ≤ 6 ∧ e = .returned (.tuple #[.slice A vs.length cap, .int .i64 0]) ∧ Vals w' A vs.length vs) ∨ (readP t = none ∧ e = .returned (.tuple #[.slice none 0 0, .int .i64 4])))) := fun t h => fun w => vread_any t h w
      by_cases hlt : k < 2
      · have hk2 : k = 0 ∨ k = 1 := by omega
        obtain ⟨t, htl, hpk⟩ : ∃ t : List UInt8, t.length ≤ 1000000 ∧ Hid (∀ w, (Instr.index 36 (.agg #[.string ⟨rb.toArray⟩, .string ⟨s.toArray⟩]) (.int .i64 k)).run Tryz.prog w = .ok (.string ⟨t.toArray⟩) w) := by
          rcases hk2 with rfl | rfl
          · exact ⟨rb, by omega, hp0⟩
          · exact ⟨s, by omega, hp1⟩
        have hpick := hpk.out
        clear hp0 hp1 hk2 hpk hstep
        go_wp2_with fail
        refine (vread_any t htl _).mono ?_
        rintro e w5 ⟨b5, hP⟩
        have hb5 := below_in hb b5
        rcases hP with ⟨us, A1, cap1, hr1, h6, rfl, hv1⟩ | ⟨hr1, rfl⟩
        · go_wp2_with fail
          refine (rread_any t htl _).mono ?_
          rintro e w6 ⟨b6, hQ⟩
          have hb6 := below_in hb5 b6
          have hv6 := hv1.below b6
          rw [read_same] at hr1
          rcases hQ with ⟨us2, A2, cap2, hr2, rfl, hv2⟩ | ⟨hr2, rfl⟩
          · obtain rfl : us = us2 := by rw [hr1] at hr2; injection hr2
            go_wp2_with fail
            refine (same_any A1 A2 us.length cap1 cap2 us w6 hv6 hv2 (by omega)).mono ?_
            rintro e w7 ⟨rfl, b7⟩
            have hb7 := below_in hb6 b7
            go_wp2_with fail
            exact ⟨⟨k + 1, by omega, by go_num, hb7⟩, by simp [intOf]; omega⟩
          · rw [hr1] at hr2; cases hr2
        · go_wp2_with fail
          refine (rread_any t htl _).mono ?_
          rintro e w6 ⟨b6, hQ⟩
          have hb6 := below_in hb5 b6
          rw [read_same] at hr1
          rcases hQ with ⟨us2, A2, cap2, hr2, rfl, hv2⟩ | ⟨hr2, rfl⟩
          · rw [hr1] at hr2; cases hr2
          · go_wp2_with fail
            refine (same_any none none 0 0 0 [] w6 (Vals.none _) (Vals.none _) (by omega)).mono ?_
            rintro e w7 ⟨rfl, b7⟩
            have hb7 := below_in hb6 b7
            go_wp2_with fail
            exact ⟨⟨k + 1, by omega, by go_num, hb7⟩, by simp [intOf]; omega⟩
      · obtain rfl : k = 2 := by omega
        rw [show ((2 : Nat) : Int) = 2 from rfl]
        clear hp0 hp1 hstep
        go_wp2_with fail
        generalize wr = wa at *
        have hWA := At.fresh wa 45 #[.slice none 0 0]
        have hbW : Below w.heap.size w (wa.alloc (.cells #[.slice none 0 0] 45)) := hb.alloc hb.size _
        have hBa := hb.size
        go_loopw [13, 72] (fun al i wr => ∃ (k : Nat) (vr : Value) (y : List UInt8), k ≤ n ∧ i = .int .i64 k ∧ al = .string ⟨y.toArray⟩ ∧ At wr wa.heap.size 45 #[vr] ∧ Owns wr wa.heap.size 5 vr y ∧ y.length ≤ 230 * k ∧ Hid (y = bytesVs (vs.take k)) ∧ Below w.heap.size w wr) (fun _ i _ => n - (intOf i).toNat)
        case atStart => exact ⟨0, _, [], by omega, rfl, rfl, hWA, Owns.nil _ _ _, by simp, show _ = _ by simp [bytesVs], hbW⟩
        case round =>
          obtain ⟨k, vr, y, hk, rfl, rfl, hbr, hor, hyl, HY, hb⟩ := hrel
          have hsz := hbr.lt
          by_cases hlt : k < n
          · obtain ⟨b, off, rfl, hbl, hcell⟩ := (hv.below hb).2 (by omega)
            obtain ⟨c0, c1, c2⟩ := hcell k hlt
            have hok1 := ok_at hok (k := k) (by omega)
            have hs1 := small_at hsm (k := k) (by omega)
            have hkt := bytesVs_take (vs := vs) (k := k) (by omega)
            have hel := bytesV_len hok1 hs1
            rw [← HY.out] at hkt
            have HK := Lib.hid hkt
            clear hkt hcell
            generalize vs.getD k default = x at *
            obtain ⟨kk, nn, tt⟩ := x
            simp only at c0 c1 c2 hs1
            have HO := Lib.hid hok1
            clear hok1
            have hbr2 := hbr.alloc (.cells #[.int .i64 kk, .int .i64 nn, .string ⟨tt.toArray⟩] 23)
            have hor2 : Owns (wr.alloc (.cells #[.int .i64 kk, .int .i64 nn, .string ⟨tt.toArray⟩] 23)) wa.heap.size 5 vr y := World.ownsRow.alloc hor _
            have hX2 := At.fresh wr 23 #[.int .i64 kk, .int .i64 nn, .string ⟨tt.toArray⟩]
            have hb2 : Below w.heap.size w (wr.alloc (.cells #[.int .i64 kk, .int .i64 nn, .string ⟨tt.toArray⟩] 23)) := hb.alloc hb.size _
            have hlr := hor.lt
            go_wp2_with fail
            refine (vput_any wa.heap.size wa.heap.size vr y ⟨kk, nn, tt⟩ _ hbr2 hor2 (by simp; omega) HO.out (by show tt.length ≤ 1000000; omega) (by omega)).mono ?_
            rintro e w3 ⟨rfl, v3, hb3, ho3, hg3⟩
            have hX3 := hg3.at_ hX2 (by omega) (fun e => by have := hlr _ e; omega)
            have hb4 := hb2.trans (hg3.below hb2.size hBa (fun g h => by have := (hlr g h).1; omega))
            have x0 : w3.cell? ⟨wr.heap.size, 0, none⟩ = some (.int .i64 kk) := At.cell hX3 0
            have x1 : w3.cell? ⟨wr.heap.size, 1, none⟩ = some (.int .i64 nn) := At.cell hX3 1
            have x2 : w3.cell? ⟨wr.heap.size, 2, none⟩ = some (.string ⟨tt.toArray⟩) := At.cell hX3 2
            go_wp2_with fail
            refine (rbytes_any ⟨kk, nn, tt⟩ _ HO.out (by show tt.length ≤ 1000000; omega)).mono ?_
            rintro e w5 ⟨rfl, b5⟩
            have hb5 := below_in hb4 b5
            have hB5 := hb3.below b5 hb3.lt
            have hO5 := ho3.below b5 (fun g h => (ho3.lt g h).2)
            generalize bytesV ⟨kk, nn, tt⟩ = x at *
            go_wp2_with fail
            exact ⟨⟨k + 1, v3, y ++ x, by omega, by go_num, congrArg Value.string (ByteArray.mk_append_mk y x), hB5, hO5, by simp; omega, HK.out.symm, hb5⟩, by simp [intOf]; omega⟩
          · obtain rfl : n = k := by omega
            have hYall : y = bytesVs vs := by rw [HY.out, List.take_of_length_le (by omega)]
            have HYA := Lib.hid hYall
            have happ := ByteArray.mk_append_mk y s
            clear hYall HY
            go_wp2_with fail
            first | rw [happ] | skip
            refine (open_any (y ++ s) wr).mono ?_
            rintro e w6 ⟨rfl, h6, r6⟩
            have hb6 : Below wr.heap.size wr w6 := (Below.refl _ _).grown r6 (Nat.le_refl _) (fun k h => by cases h)
            have hbb6 := below_in hb hb6
            have hB6 := hbr.below hb6 hbr.lt
            have hO6 := hor.below hb6 (fun g h => (hor.lt g h).2)
            have hl6 := At.lt h6
            have h7 : Rd (w6.alloc (.cells #[.string ⟨(y ++ s).toArray⟩, .int .i64 0, .bool false] 51)) wr.heap.size (y ++ s) false := At.alloc h6 _
            have hB7 := hB6.alloc (.cells #[.string ⟨(y ++ s).toArray⟩, .int .i64 0, .bool false] 51)
            have hO7 : Owns (w6.alloc (.cells #[.string ⟨(y ++ s).toArray⟩, .int .i64 0, .bool false] 51)) wa.heap.size 5 vr y := World.ownsRow.alloc hO6 _
            have hF7 : Rf (w6.alloc (.cells #[.string ⟨(y ++ s).toArray⟩, .int .i64 0, .bool false] 51)) w6.heap.size (y ++ s) 0 false := At.fresh _ _ _
            have hbb7 : Below w.heap.size w (w6.alloc (.cells #[.string ⟨(y ++ s).toArray⟩, .int .i64 0, .bool false] 51)) := hbb6.alloc hbb6.size _
            have hsy : Sync (y ++ s) 0 false (y ++ s) false := ⟨by omega, .inl ⟨rfl, rfl, by simp⟩⟩
            have hwl := hb.size
            go_wp2_with fail
            generalize wr = wb at *
            clear hbr hor hb6 hB6 hO6 r6 hWA hbW
            go_loopw [95] (fun i wr => ∃ (k p : Nat) (bad : Bool) (q : List UInt8) (f : Bool), k ≤ n ∧ i = .int .i64 k ∧ Rd wr wb.heap.size q f ∧ Rf wr w6.heap.size (y ++ s) p bad ∧ Hid (Sync (y ++ s) p bad q f) ∧ Hid (bad = false → q = bytesVs (vs.drop k) ++ s) ∧ At wr wa.heap.size 45 #[vr] ∧ Owns wr wa.heap.size 5 vr y ∧ Below w.heap.size w wr) (fun i _ => n - (intOf i).toNat)
            case atStart => exact ⟨0, 0, false, y ++ s, false, by omega, rfl, h7, hF7, hsy, show _ → _ from fun _ => by rw [HYA.out]; rfl, hB7, hO7, hbb7⟩
            case round =>
              obtain ⟨k, p, bad, q, f, hk, rfl, hr, hf, HS, HQ, hB, hO, hb⟩ := hrel
              by_cases hlt : k < n
              · obtain ⟨e1, e2, e3⟩ := step_row hok hsm (by omega) HS.out HQ.out
                have hp := HS.out.1
                have hql : q.length ≤ (y ++ s).length := by
                  rcases HS.out.2 with ⟨_, _, h⟩ | ⟨_, _, h⟩
                  · rw [h]; simp
                  · rw [h]; simp
                have hys : (y ++ s).length ≤ 1000000 := by simp; omega
                have E2 := Lib.hid e2
                have E3 := Lib.hid e3
                clear e2 e3 HS HQ
                have hn1 := owns_apart hO hr (by decide)
                have hn2 := owns_apart hO hf (by decide)
                go_wp2_with fail
                refine (vtake_any wb.heap.size q f wr hr (by omega)).mono ?_
                rintro e w8 ⟨rfl, h8, r8⟩
                have hf8 : Rf w8 w6.heap.size (y ++ s) p bad := At.grown hf r8 (fun e => by injection e; omega)
                have hB8 := hB.grown r8 (fun e => by injection e; omega)
                have hO8 := hO.keep r8 hn1
                have hb8 : Below w.heap.size w w8 := hb.grown r8 hb.size (fun k h => by injection h; omega)
                go_wp2_with fail
                refine (rtake_any w6.heap.size (y ++ s) p bad w8 hf8 hys hp).mono ?_
                rintro e w9 ⟨rfl, h9, r9⟩
                have hr9 : Rd w9 wb.heap.size (takeP q f).2.1 (takeP q f).2.2 := At.grown h8 r9 (fun e => by injection e; omega)
                have hB9 := hB8.grown r9 (fun e => by injection e; omega)
                have hO9 := hO8.keep r9 hn2
                have hb9 : Below w.heap.size w w9 := hb8.grown r9 hb8.size (fun k h => by injection h; omega)
                rw [e1]
                generalize takeP q f = aP at *
                generalize takeR (y ++ s) p bad = aR at *
                obtain ⟨⟨kk, nn, tt⟩, q', f'⟩ := aP
                obtain ⟨vR, p', bad'⟩ := aR
                simp only at hr9 h9 E2 E3
                unfold Vl.val
                simp only
                clear e1 hr hf hB hO h8 hf8 hB8 hO8 r8 r9
                go_wp2_with fail
                exact ⟨⟨k + 1, p', bad', q', f', by omega, by go_num, hr9, h9, E2, E3, hB9, hO9, hb9⟩, by simp [intOf]; omega⟩
              · obtain rfl : n = k := by omega
                go_wp2_with fail
                refine (wbytes_any _ _ vr y _ hB hO).mono ?_
                rintro e w' ⟨rfl, rfl⟩
                go_wp2_with fail
                go_ret
                exact ⟨by simp, hb⟩
  · have h10' : decide ((1024 : Int) < (s.length : Int)) = true := by simp; omega
    go_wp2_with fail
    go_ret
    exact ⟨rfl, hb2⟩
end Go.Proofs.YtnlfemfkjjjdhaaGreatDoor
