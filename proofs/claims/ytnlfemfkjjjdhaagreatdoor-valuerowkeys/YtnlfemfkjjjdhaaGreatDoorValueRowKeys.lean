/- The walk of the law ValueRowKeys. -/
import Derived.Test.YtnlfemfkjjjdhaaGreatDoorValF
import Derived.Test.YtnlfemfkjjjdhaaGreatDoorValI
namespace Go.Proofs.YtnlfemfkjjjdhaaGreatDoor
open Go.RowKit

/-- The keys of a row, one behind the other. -/
def keysV (vs : List Vl) : List UInt8 := vs.flatMap keyV
theorem keysV_len : ∀ vs : List Vl, (keysV vs).length ≤ 60 * vs.length
  | [] => by simp [keysV]
  | v :: r => by
    have h1 := keysV_len r
    have h2 := esc_len2 v
    simp [keysV] at h1 ⊢
    omega
theorem keysV_take {vs : List Vl} {k : Nat} (h : k < vs.length) : keysV (vs.take (k + 1)) = keysV (vs.take k) ++ keyV (vs.getD k default) := by
  unfold keysV
  rw [List.take_succ_eq_append_getElem h, List.getD_eq_getElem?_getD, List.getElem?_eq_getElem h, List.flatMap_append, List.flatMap_cons, List.flatMap_nil, List.append_nil]
  rfl
theorem keysV_drop {vs : List Vl} {k : Nat} (h : k < vs.length) : keysV (vs.drop k) = keyV (vs.getD k default) ++ keysV (vs.drop (k + 1)) := by
  unfold keysV
  rw [List.drop_eq_getElem_cons h, List.getD_eq_getElem?_getD, List.getElem?_eq_getElem h, List.flatMap_cons]
  rfl

set_option maxRecDepth 100000 in
set_option maxHeartbeats 3200000 in
theorem valueRowKeys_main (A : Option Addr) (n cap : Nat) (vs : List Vl) (w : World) (ht : Tb w) (hv : Vals w A n vs) (hok : ∀ v ∈ vs, v.Ok) (hn : n ≤ maxLen) :
    Calls Tryz.prog 7 #[.slice A n cap] w fun e w' => e = .returned (.bool true) ∧ Below w.heap.size w w' := by
  have hvl := hv.1
  have hnn : n ≤ 9223372036854775807 := by unfold maxLen at hn; simp at hn; omega
  go_enter Tryz.func7, Tryz.ntmps7
  go_wp2_with fail
  refine (alive_any _ ht).mono ?_
  rintro e w1 ⟨rfl, b1⟩
  go_wp2_with fail
  refine (great_any A n cap vs w1 (hv.below b1) hok hn).mono ?_
  rintro e w2 ⟨rfl, b2⟩
  have hb2 := below_in b1 b2
  cases hgr : greatB vs with
  | true =>
    go_wp2_with fail
    go_ret
    exact ⟨rfl, hb2⟩
  | false =>
    by_cases h10 : n ≤ 10
    · have h10' : decide ((10 : Int) < (n : Int)) = false := by simp; omega
      clear hgr b1 b2
      go_wp2_with fail
      go_loopw [3, 22] (fun s i wr => ∃ (k : Nat) (y : List UInt8), k ≤ n ∧ i = .int .i64 k ∧ s = .string ⟨y.toArray⟩ ∧ y.length ≤ 60 * k ∧ Hid (y = keysV (vs.take k)) ∧ Hid (∀ j, j < k → goodV (vs.getD j default) = true) ∧ Below w.heap.size w wr) (fun _ i _ => n - (intOf i).toNat)
      case atStart => exact ⟨0, [], by omega, rfl, rfl, by simp, rfl, fun j hj => by omega, hb2⟩
      case round =>
        obtain ⟨k, y, hk, rfl, rfl, hyl, HY, HG, hb⟩ := hrel
        by_cases hlt : k < n
        · obtain ⟨b, off, rfl, hbl, hcell⟩ := (hv.below hb).2 (by omega)
          obtain ⟨c0, c1, c2⟩ := hcell k hlt
          have hok1 := ok_at hok (k := k) (by omega)
          have hkt := keysV_take (vs := vs) (k := k) (by omega)
          have hel := esc_len2 (vs.getD k default)
          have hg1 : goodV (vs.getD k default) = true → ∀ j, j < k + 1 → goodV (vs.getD j default) = true := fun h j hj => by
            by_cases e : j = k
            · rw [e]; exact h
            · exact HG.out j (by omega)
          rw [← HY.out] at hkt
          have HK := Lib.hid hkt
          have HG1 := Lib.hid hg1
          clear hkt hcell hg1
          generalize vs.getD k default = x at *
          obtain ⟨kk, nn, tt⟩ := x
          simp only at c0 c1 c2
          have HO := Lib.hid hok1
          clear hok1
          have hb3 : Below w.heap.size w (wr.alloc (.cells #[.int .i64 kk, .int .i64 nn, .string ⟨tt.toArray⟩] 23)) := hb.alloc hb.size _
          go_wp2_with fail
          refine (rgood_any ⟨kk, nn, tt⟩ HO.out _).mono ?_
          rintro e w3 ⟨rfl, b3⟩
          obtain ⟨hA3, b3'⟩ := boxed kk nn tt b3
          have hb4 := below_in hb b3'
          have d0 : w3.cell? ⟨wr.heap.size, 0, none⟩ = some (.int .i64 kk) := At.cell hA3 0
          have d1 : w3.cell? ⟨wr.heap.size, 1, none⟩ = some (.int .i64 nn) := At.cell hA3 1
          have d2 : w3.cell? ⟨wr.heap.size, 2, none⟩ = some (.string ⟨tt.toArray⟩) := At.cell hA3 2
          clear b3 b3' hb3
          cases hg : goodV ⟨kk, nn, tt⟩ with
          | false =>
            go_wp2_with fail
            go_ret
            exact ⟨rfl, hb4⟩
          | true =>
            go_wp2_with fail
            refine (vkey_any ⟨kk, nn, tt⟩ HO.out _ (ht.below hb4).lens).mono ?_
            rintro e w4 ⟨rfl, b4⟩
            have hb5 := below_in hb4 b4
            obtain ⟨x, hx⟩ : ∃ x, keyV ⟨kk, nn, tt⟩ = x := ⟨_, rfl⟩
            rw [hx] at HK hel ⊢
            go_wp2_with fail
            refine ⟨⟨k + 1, y ++ x, by omega, by go_num, congrArg Value.string (ByteArray.mk_append_mk y x), by simp; omega, HK.out.symm, HG1.out hg, hb5⟩, by simp [intOf]; omega⟩
        · obtain rfl : n = k := by omega
          have hall : y = keysV (vs.drop 0) := by rw [HY.out, List.take_of_length_le (by omega)]; rfl
          have hgood : ∀ j, j < vs.length → goodV (vs.getD j default) = true := fun j hj => HG.out j (by omega)
          have HALL := Lib.hid hall
          have HGOOD := Lib.hid hgood
          clear hall hgood HG HY
          go_wp2_with fail
          go_loopw [3, 36] (fun s i wr => ∃ (k : Nat) (y : List UInt8), k ≤ n ∧ i = .int .i64 k ∧ s = .string ⟨y.toArray⟩ ∧ y.length ≤ 600 ∧ Hid (y = keysV (vs.drop k)) ∧ Below w.heap.size w wr) (fun _ i _ => n - (intOf i).toNat)
          case atStart => exact ⟨0, y, by omega, rfl, rfl, by omega, HALL, hb⟩
          case round =>
            obtain ⟨j, z, hj, rfl, rfl, hzl, HZ, hbz⟩ := hrel
            by_cases hlt2 : j < n
            · obtain ⟨b, off, rfl, hbl, hcell⟩ := (hv.below hbz).2 (by omega)
              obtain ⟨c0, c1, c2⟩ := hcell j hlt2
              have hok1 := ok_at hok (k := j) (by omega)
              have hkd := keysV_drop (vs := vs) (k := j) (by omega)
              have hg1 := HGOOD.out j (by omega)
              have hcut := cut_key hg1 hok1.num (keysV (vs.drop (j + 1)))
              rw [← hkd, ← HZ.out] at hcut
              have hl2 : (keysV (vs.drop (j + 1))).length ≤ 600 := by
                have := congrArg List.length HZ.out
                rw [hkd, List.length_append] at this
                omega
              obtain ⟨q, hq⟩ : ∃ q, keysV (vs.drop (j + 1)) = q := ⟨_, rfl⟩
              rw [hq] at hcut hl2
              have HQ := Lib.hid hq
              have HC := Lib.hid hcut
              clear hcut hkd hcell hg1 hok1 hq
              generalize vs.getD j default = x at *
              obtain ⟨kk, nn, tt⟩ := x
              simp only at c0 c1 c2
              go_wp2_with fail
              refine (cut_any z (by omega) _).mono ?_
              rintro e w3 ⟨rfl, b3⟩
              rw [HC.out, cutRes_some]
              obtain ⟨hA3, b3'⟩ := boxed kk nn tt b3
              have hb4 := below_in hbz b3'
              have d0 : w3.cell? ⟨wr.heap.size, 0, none⟩ = some (.int .i64 kk) := At.cell hA3 0
              have d1 : w3.cell? ⟨wr.heap.size, 1, none⟩ = some (.int .i64 nn) := At.cell hA3 1
              have d2 : w3.cell? ⟨wr.heap.size, 2, none⟩ = some (.string ⟨tt.toArray⟩) := At.cell hA3 2
              have hlw := hA3.lt
              have hA4 := hA3.alloc (.cells #[.int .i64 kk, .int .i64 nn, .string ⟨tt.toArray⟩] 23)
              have g0 : (w3.alloc (.cells #[.int .i64 kk, .int .i64 nn, .string ⟨tt.toArray⟩] 23)).cell? ⟨wr.heap.size, 0, none⟩ = some (.int .i64 kk) := At.cell hA4 0
              have g1 : (w3.alloc (.cells #[.int .i64 kk, .int .i64 nn, .string ⟨tt.toArray⟩] 23)).cell? ⟨wr.heap.size, 1, none⟩ = some (.int .i64 nn) := At.cell hA4 1
              have g2 : (w3.alloc (.cells #[.int .i64 kk, .int .i64 nn, .string ⟨tt.toArray⟩] 23)).cell? ⟨wr.heap.size, 2, none⟩ = some (.string ⟨tt.toArray⟩) := At.cell hA4 2
              go_wp2_with fail
              exact ⟨⟨j + 1, q, by omega, by go_num, rfl, hl2, HQ.out.symm, hb4.alloc hb4.size _⟩, by simp [intOf]; omega⟩
            · have hz0 : z = [] := by rw [HZ.out, List.drop_of_length_le (by omega)]; rfl
              subst hz0
              go_wp2_with fail
              go_ret
              exact ⟨rfl, hbz⟩
    · have h10' : decide ((10 : Int) < (n : Int)) = true := by simp; omega
      go_wp2_with fail
      go_ret
      exact ⟨rfl, hb2⟩
end Go.Proofs.YtnlfemfkjjjdhaaGreatDoor
