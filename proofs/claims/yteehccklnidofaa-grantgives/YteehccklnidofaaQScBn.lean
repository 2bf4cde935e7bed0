/- The walks of Name, both sides. -/
import Derived.Test.YteehccklnidofaaQScB
namespace Go.Proofs.Yteehccklnidofaa
open Go.RowKit

set_option maxRecDepth 100000 in
set_option maxHeartbeats 8000000 in
theorem name_any (l : List UInt8) (hl : l.length ≤ maxLen) (w : World) : Calls Try.prog 32 #[.string ⟨l.toArray⟩] w fun e w' => e = .returned (.bool (nameN l)) ∧ w = w' := by
  unfold maxLen at hl
  by_cases h12 : 12 < l.length
  · have H := Lib.hid (name_long h12)
    have h12' : decide ((12 : Int) < l.length) = true := by simp; omega
    go_enter Try.func32, Try.ntmps32
    go_wp2_with fail
    go_ret
    exact ⟨ret_b H.out.symm, rfl⟩
  have h12' : decide ((12 : Int) < l.length) = false := by simp; omega
  go_enter Try.func32, Try.ntmps32
  go_wp2_with fail
  go_loop [10] (fun i => ∃ k : Nat, k ≤ l.length ∧ i = .int .i64 k ∧ Hid (∀ j, j < k → okAt j (l.getD j 0).toNat = true)) (fun i => l.length - (intOf i).toNat)
  case atStart => exact ⟨0, by omega, rfl, fun j hj => absurd hj (by omega)⟩
  case round =>
    obtain ⟨k, hk, rfl, HA⟩ := hrel
    by_cases hlt : k < l.length
    · have hix := fun (ww : World) => run_index_list (P := Try.prog) 9 l (k : Int) k _ Try.underlying9 rfl hlt rfl ww
      have HB := Lib.hid (@name_bad l k hlt)
      have HO : Hid (okAt k (l.getD k 0).toNat = (lowerB (l.getD k 0).toNat || (!decide (k = 0) && (digitB (l.getD k 0).toNat || decide ((l.getD k 0).toNat = 95))))) := rfl
      obtain ⟨x, hx⟩ : ∃ x, (l.getD k 0).toNat = x := ⟨_, rfl⟩
      have HX := Lib.hid hx
      rw [hx] at hix HB HO
      clear hx
      have cD := isDigit_any x
      have cL := isLower_any x
      obtain ⟨di, hdi⟩ : ∃ di, digitB x = di := ⟨_, rfl⟩
      obtain ⟨lo, hlo⟩ : ∃ lo, lowerB x = lo := ⟨_, rfl⟩
      rw [hdi, hlo] at HO
      rw [hdi] at cD
      rw [hlo] at cL
      clear hdi hlo
      have next : okAt k x = true → Hid (∀ j, j < k + 1 → okAt j (l.getD j 0).toNat = true) := fun ho j hj => by
        by_cases hjk : j = k
        · subst hjk; rw [HX.out]; exact ho
        · exact HA.out j (by omega)
      have NX := Lib.hid next
      clear next
      cases lo with
      | true =>
        have hn := NX.out (by rw [HO.out]; rfl)
        clear HB HO NX HX HA
        cases di <;>
        · go_wp2_with fail
          refine (cD _).mono ?_
          rintro e w' ⟨rfl, rfl⟩
          go_wp2_with fail
          refine (cL _).mono ?_
          rintro e w' ⟨rfl, rfl⟩
          go_wp2_with fail
          exact ⟨⟨_ + 1, by omega, by go_num, hn⟩, by simp [intOf]; omega⟩
      | false =>
        by_cases hk0 : k = 0
        · have hn := Lib.hid (HB.out (by rw [HO.out]; simp [hk0]))
          subst hk0
          have hix := fun (ww : World) => run_index_list (P := Try.prog) 9 l 0 0 x Try.underlying9 rfl hlt HX.out ww
          clear HB HO NX HX HA
          cases di <;>
          · go_wp2_with fail
            refine (cD _).mono ?_
            rintro e w' ⟨rfl, rfl⟩
            go_wp2_with fail
            refine (cL _).mono ?_
            rintro e w' ⟨rfl, rfl⟩
            go_wp2_with fail
            go_ret
            exact ⟨ret_b hn.out.symm, rfl⟩
        · have e0 : ((k : Int) == 0) = false := by simp; omega
          cases di with
          | true =>
            have hn := NX.out (by rw [HO.out]; simp [hk0])
            clear HB HO NX HX HA
            go_wp2_with fail
            refine (cD _).mono ?_
            rintro e w' ⟨rfl, rfl⟩
            go_wp2_with fail
            refine (cL _).mono ?_
            rintro e w' ⟨rfl, rfl⟩
            go_wp2_with fail
            exact ⟨⟨_ + 1, by omega, by go_num, hn⟩, by simp [intOf]; omega⟩
          | false =>
            by_cases h95 : x = 95
            · have e95 : ((x : Int) == 95) = true := by simp; omega
              have hn := NX.out (by rw [HO.out]; simp [hk0, h95])
              clear HB HO NX HX HA h95
              go_wp2_with fail
              refine (cD _).mono ?_
              rintro e w' ⟨rfl, rfl⟩
              go_wp2_with fail
              refine (cL _).mono ?_
              rintro e w' ⟨rfl, rfl⟩
              go_wp2_with fail
              exact ⟨⟨_ + 1, by omega, by go_num, hn⟩, by simp [intOf]; omega⟩
            · have e95 : ((x : Int) == 95) = false := by simp; omega
              have hn := Lib.hid (HB.out (by rw [HO.out]; simp [h95]))
              clear HB HO NX HX HA h95
              go_wp2_with fail
              refine (cD _).mono ?_
              rintro e w' ⟨rfl, rfl⟩
              go_wp2_with fail
              refine (cL _).mono ?_
              rintro e w' ⟨rfl, rfl⟩
              go_wp2_with fail
              go_ret
              exact ⟨ret_b hn.out.symm, rfl⟩
    · have hkl : k = l.length := by omega
      have HN := Lib.hid (name_all (l := l) (by rw [← hkl]; exact HA.out))
      by_cases h0 : l.length = 0
      · obtain rfl : l = [] := List.eq_nil_of_length_eq_zero h0
        go_wp2_with fail
        go_ret
        exact ⟨ret_b (by rw [HN.out]; rfl), rfl⟩
      · have hne := nil_eq l h0
        go_wp2_with fail
        go_ret
        exact ⟨ret_b (by rw [HN.out, show decide (1 ≤ l.length) = true by simp; omega, show decide (l.length ≤ 12) = true by simp; omega]; cases l <;> simp_all), rfl⟩
end Go.Proofs.Yteehccklnidofaa
