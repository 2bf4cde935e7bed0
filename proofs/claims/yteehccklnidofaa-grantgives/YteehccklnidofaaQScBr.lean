/- The walks of Name, both sides. -/
import Derived.Test.YteehccklnidofaaQScB
namespace Go.Proofs.Yteehccklnidofaa
open Go.RowKit

set_option maxRecDepth 100000 in
set_option maxHeartbeats 8000000 in
theorem refName_any (l : List UInt8) (hl : l.length ≤ maxLen) (w : World) : Calls Try.prog 28 #[.string ⟨l.toArray⟩] w fun e w' => e = .returned (.bool (nameN l)) ∧ w = w' := by
  unfold maxLen at hl
  go_enter Try.func28, Try.ntmps28
  go_wp2_with fail
  go_loop [3] (fun i => ∃ k : Nat, k ≤ l.length ∧ i = .int .i64 k ∧ Hid (∀ j, j < k → okAt j (l.getD j 0).toNat = true)) (fun i => l.length - (intOf i).toNat)
  case atStart => exact ⟨0, by omega, rfl, fun j hj => absurd hj (by omega)⟩
  case round =>
    obtain ⟨k, hk, rfl, HA⟩ := hrel
    by_cases hlt : k < l.length
    · have hix := fun (ww : World) => run_index_list (P := Try.prog) 9 l (k : Int) k _ Try.underlying9 rfl hlt rfl ww
      have HB := Lib.hid (@name_bad l k hlt)
      have HO : Hid (okAt k (l.getD k 0).toNat = (lowerB (l.getD k 0).toNat || (!decide (k = 0) && (digitB (l.getD k 0).toNat || decide ((l.getD k 0).toNat = 95))))) := rfl
      obtain ⟨x, hx⟩ : ∃ x, (l.getD k 0).toNat = x := ⟨_, rfl⟩
      have HX := Lib.hid hx
      rw [hx] at hix HB HO
      clear hx
      have HD : Hid (digitB x = (decide (48 ≤ x) && decide (x ≤ 57))) := rfl
      have HL : Hid (lowerB x = (decide (97 ≤ x) && decide (x ≤ 122))) := rfl
      have next : okAt k x = true → Hid (∀ j, j < k + 1 → okAt j (l.getD j 0).toNat = true) := fun ho j hj => by
        by_cases hjk : j = k
        · subst hjk; rw [HX.out]; exact ho
        · exact HA.out j (by omega)
      have NX := Lib.hid next
      clear next
      by_cases h97 : 97 ≤ x ∧ x ≤ 122
      · have g1 : decide ((97 : Int) ≤ x) = true := by simp; omega
        have g2 : decide ((x : Int) ≤ 122) = true := by simp; omega
        have hn := NX.out (by rw [HO.out, HL.out]; simp [h97])
        clear HB HO NX HX HA HD HL h97
        go_wp2_with fail
        exact ⟨⟨_ + 1, by omega, by go_num, hn⟩, by simp [intOf]; omega⟩
      · have hlo : lowerB x = false := by rw [HL.out]; simp; omega
        rw [hlo] at HO
        clear HL hlo
        have low : (decide ((97 : Int) ≤ x) = true ∧ decide ((x : Int) ≤ 122) = false) ∨ decide ((97 : Int) ≤ x) = false := by simp; omega
        by_cases hk0 : k = 0
        · have hn := Lib.hid (HB.out (by rw [HO.out]; simp [hk0]))
          subst hk0
          have hix := fun (ww : World) => run_index_list (P := Try.prog) 9 l 0 0 x Try.underlying9 rfl hlt HX.out ww
          clear HB HO NX HX HA HD h97
          rcases low with ⟨g1, g2⟩ | g1
          all_goals
            go_wp2_with fail
            go_ret
            exact ⟨ret_b hn.out.symm, rfl⟩
        · have e0 : ((k : Int) == 0) = false := by simp; omega
          by_cases h95 : x = 95
          · have g1 : decide ((97 : Int) ≤ x) = false := by simp; omega
            have e95 : ((x : Int) != 95) = false := by simp; omega
            have hn := NX.out (by rw [HO.out]; simp [hk0, h95])
            clear HB HO NX HX HA HD h97 low
            go_wp2_with fail
            exact ⟨⟨_ + 1, by omega, by go_num, hn⟩, by simp [intOf]; omega⟩
          · have e95 : ((x : Int) != 95) = true := by simp; omega
            by_cases h48 : 48 ≤ x ∧ x ≤ 57
            · have g1 : decide ((97 : Int) ≤ x) = false := by simp; omega
              have g3 : decide ((x : Int) < 48) = false := by simp; omega
              have g4 : decide ((57 : Int) < x) = false := by simp; omega
              have hn := NX.out (by rw [HO.out, HD.out]; simp [hk0, h48])
              clear HB HO NX HX HA HD h97 low
              go_wp2_with fail
              exact ⟨⟨_ + 1, by omega, by go_num, hn⟩, by simp [intOf]; omega⟩
            · have hn := Lib.hid (HB.out (by rw [HO.out, HD.out]; simp [h95]; omega))
              clear HB HO NX HX HA HD
              by_cases h3 : x < 48
              · have g1 : decide ((97 : Int) ≤ x) = false := by simp; omega
                have g3 : decide ((x : Int) < 48) = true := by simp; omega
                clear low h97 h48
                go_wp2_with fail
                go_ret
                exact ⟨ret_b hn.out.symm, rfl⟩
              · have g3 : decide ((x : Int) < 48) = false := by simp; omega
                have g4 : decide ((57 : Int) < x) = true := by simp; omega
                clear h97 h48
                rcases low with ⟨g1, g2⟩ | g1
                all_goals
                  go_wp2_with fail
                  go_ret
                  exact ⟨ret_b hn.out.symm, rfl⟩
    · have hkl : k = l.length := by omega
      have HN := Lib.hid (name_all (l := l) (by rw [← hkl]; exact HA.out))
      by_cases h0 : 1 ≤ l.length
      · have g1 : decide ((1 : Int) ≤ l.length) = true := by simp; omega
        go_wp2_with fail
        go_ret
        exact ⟨ret_b (by rw [HN.out]; simp [h0]; omega), rfl⟩
      · have g1 : decide ((1 : Int) ≤ l.length) = false := by simp; omega
        go_wp2_with fail
        go_ret
        exact ⟨ret_b (by rw [HN.out]; simp [h0]), rfl⟩
end Go.Proofs.Yteehccklnidofaa
