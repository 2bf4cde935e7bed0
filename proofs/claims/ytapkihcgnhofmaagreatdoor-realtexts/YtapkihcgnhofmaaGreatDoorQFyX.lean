/- strconv's readFloat, whole. -/
import Derived.Test.YtapkihcgnhofmaaGreatDoorQFyP
import Derived.Test.YtapkihcgnhofmaaGreatDoorQFyQ
import Derived.Test.YtapkihcgnhofmaaGreatDoorQFyW
namespace Go.Proofs.YtapkihcgnhofmaaGreatDoor
open Go.RowKit

set_option maxRecDepth 1000000 in
set_option maxHeartbeats 3200000 in
theorem readFloat_some (s : List UInt8) (hs : s.length ≤ 1000) (h0 : 0 < s.length) (w : World) :
    Calls Tryz.prog 83 #[.string ⟨s.toArray⟩] w fun e w' => RfPost s e ∧ w = w' := by
  have hix0 := fun (ww : World) => run_index_list (P := Tryz.prog) 9 s 0 0 _ Tryz.underlying9 rfl h0 rfl ww
  have hM : rfM s = if (s.getD 0 0).toNat = 43 then rfB s false 1 else if (s.getD 0 0).toNat = 45 then rfB s true 1 else rfB s false 0 := by unfold rfM; rw [if_neg (by omega)]
  obtain ⟨c, hc⟩ : ∃ c, (s.getD 0 0).toNat = c := ⟨_, rfl⟩
  rw [hc] at hix0 hM
  have HCC := Lib.hid hc
  have hnil : ¬ s = [] := fun e => by rw [e] at h0; exact absurd h0 (by decide)
  by_cases c43 : c = 43
  · have u1 : ((c : Int) == 43) = true := by simp; omega
    have hS := hM.trans (if_pos c43)
    clear hM hc
    have hB : rfM s = rfB s false 1 := hS
    by_cases g1 : 1 + 2 < s.length
    · have t1 : decide (((1 : Nat) : Int) + 2 < (s.length : Int)) = true := by simp; omega
      have t1' : decide (((1 : Int)) + 2 < (s.length : Int)) = true := by simp; omega
      have t1n : 3 < s.length := by omega
      have t1i : decide ((3 : Int) < (s.length : Int)) = true := by simp; omega
      have hi0 := fun (ww : World) => run_index_list (P := Tryz.prog) 9 s (1 : Int) 1 _ Tryz.underlying9 rfl (by omega) rfl ww
      have hi1 := fun (ww : World) => run_index_list (P := Tryz.prog) 9 s (2 : Int) 2 _ Tryz.underlying9 rfl (by omega) rfl ww
      have hb := (s.getD 2 0).toNat_lt
      unfold rfB at hB
      obtain ⟨a, ha⟩ : ∃ a, (s.getD 1 0).toNat = a := ⟨_, rfl⟩
      obtain ⟨b, hbe⟩ : ∃ b, (s.getD (1 + 1) 0).toNat = b := ⟨_, rfl⟩
      rw [ha] at hi0 hB
      have hbe' : (s.getD 2 0).toNat = b := hbe
      rw [hbe] at hB
      rw [hbe'] at hi1 hb
      clear ha hbe hbe'
      have hlow := lower_nat b hb
      by_cases g2 : a = 48
      · have t2 : ((a : Int) == 48) = true := by simp; omega
        obtain ⟨l, hl⟩ : ∃ l, low5 b = l := ⟨_, rfl⟩
        rw [hl] at hB hlow
        clear hl
        by_cases g3 : l = 120
        · have t3 : ((l : Int) == 120) = true := by simp; omega
          have HC := Lib.hid (hB.trans (if_pos ⟨g1, g2, g3⟩))
          clear hB hS g2 g3
          as_aux_lemma =>
            go_enter Tryz.func83, Tryz.ntmps83
            go_wp2_with fail
            go_step3
            go_upto_block 1 with (go_at_call 52; refine (Tryz.internal_strconv_lower _ _).mono ?_; rintro e w' ⟨rfl, hw'⟩; obtain rfl : w = w' := hw'.symm)
            go_step3
            go_upto_block 1 with fail
            rename_i KK hKK
            refine loop_hex s hs false 3 (by omega) w KK _ HC (fun m tr us dot dig nd nm dp j h1 h2 h3 => hKK _ _ ?_)
            refine rest_hex s hs false tr us dot dig m j nd nm dp h1 h2 w _ ?_ h3
            intro t v q1 q2
            exact bodyPost_ret (P := Tryz.prog) (fn := Tryz.f83) (R := fun e w' => RfPost s e ∧ w = w') (a := ⟨t, []⟩) q1 rfl ⟨q2, rfl⟩
        · have t3 : ((l : Int) == 120) = false := by simp; omega
          have HC := Lib.hid (hB.trans (if_neg (fun h => g3 h.2.2)))
          clear hB hS g2 g3
          as_aux_lemma =>
            go_enter Tryz.func83, Tryz.ntmps83
            go_wp2_with fail
            go_step3
            go_upto_block 1 with (go_at_call 52; refine (Tryz.internal_strconv_lower _ _).mono ?_; rintro e w' ⟨rfl, hw'⟩; obtain rfl : w = w' := hw'.symm)
            go_step3
            go_upto_block 1 with fail
            rename_i KK hKK
            refine loop_dec s hs false 1 (by omega) w KK _ HC (fun m tr us dot dig nd nm dp j h1 h2 h3 => hKK _ _ ?_)
            refine rest_dec s hs false tr us dot dig m j nd nm dp h1 h2 w _ ?_ h3
            intro t v q1 q2
            exact bodyPost_ret (P := Tryz.prog) (fn := Tryz.f83) (R := fun e w' => RfPost s e ∧ w = w') (a := ⟨t, []⟩) q1 rfl ⟨q2, rfl⟩
      · have t2 : ((a : Int) == 48) = false := by simp; omega
        have HC := Lib.hid (hB.trans (if_neg (fun h => g2 h.2.1)))
        clear hB hS g2
        as_aux_lemma =>
          go_enter Tryz.func83, Tryz.ntmps83
          go_wp2_with fail
          go_step3
          go_upto_block 1 with fail
          go_step3
          go_upto_block 1 with fail
          rename_i KK hKK
          refine loop_dec s hs false 1 (by omega) w KK _ HC (fun m tr us dot dig nd nm dp j h1 h2 h3 => hKK _ _ ?_)
          refine rest_dec s hs false tr us dot dig m j nd nm dp h1 h2 w _ ?_ h3
          intro t v q1 q2
          exact bodyPost_ret (P := Tryz.prog) (fn := Tryz.f83) (R := fun e w' => RfPost s e ∧ w = w') (a := ⟨t, []⟩) q1 rfl ⟨q2, rfl⟩
    · have t1 : decide (((1 : Nat) : Int) + 2 < (s.length : Int)) = false := by simp; omega
      have t1' : decide (((1 : Int)) + 2 < (s.length : Int)) = false := by simp; omega
      have t1n : ¬ 3 < s.length := by omega
      have t1i : decide ((3 : Int) < (s.length : Int)) = false := by simp; omega
      unfold rfB at hB
      have HC := Lib.hid (hB.trans (if_neg (fun h => g1 h.1)))
      clear hB hS
      as_aux_lemma =>
        go_enter Tryz.func83, Tryz.ntmps83
        go_wp2_with fail
        go_step3
        go_upto_block 1 with fail
        go_step3
        go_upto_block 1 with fail
        rename_i KK hKK
        refine loop_dec s hs false 1 (by omega) w KK _ HC (fun m tr us dot dig nd nm dp j h1 h2 h3 => hKK _ _ ?_)
        refine rest_dec s hs false tr us dot dig m j nd nm dp h1 h2 w _ ?_ h3
        intro t v q1 q2
        exact bodyPost_ret (P := Tryz.prog) (fn := Tryz.f83) (R := fun e w' => RfPost s e ∧ w = w') (a := ⟨t, []⟩) q1 rfl ⟨q2, rfl⟩
  · have u1 : ((c : Int) == 43) = false := by simp; omega
    by_cases c45 : c = 45
    · have u2 : ((c : Int) == 45) = true := by simp; omega
      have hS := hM.trans ((if_neg c43).trans (if_pos c45))
      clear hM hc
      have hB : rfM s = rfB s true 1 := hS
      by_cases g1 : 1 + 2 < s.length
      · have t1 : decide (((1 : Nat) : Int) + 2 < (s.length : Int)) = true := by simp; omega
        have t1' : decide (((1 : Int)) + 2 < (s.length : Int)) = true := by simp; omega
        have t1n : 3 < s.length := by omega
        have t1i : decide ((3 : Int) < (s.length : Int)) = true := by simp; omega
        have hi0 := fun (ww : World) => run_index_list (P := Tryz.prog) 9 s (1 : Int) 1 _ Tryz.underlying9 rfl (by omega) rfl ww
        have hi1 := fun (ww : World) => run_index_list (P := Tryz.prog) 9 s (2 : Int) 2 _ Tryz.underlying9 rfl (by omega) rfl ww
        have hb := (s.getD 2 0).toNat_lt
        unfold rfB at hB
        obtain ⟨a, ha⟩ : ∃ a, (s.getD 1 0).toNat = a := ⟨_, rfl⟩
        obtain ⟨b, hbe⟩ : ∃ b, (s.getD (1 + 1) 0).toNat = b := ⟨_, rfl⟩
        rw [ha] at hi0 hB
        have hbe' : (s.getD 2 0).toNat = b := hbe
        rw [hbe] at hB
        rw [hbe'] at hi1 hb
        clear ha hbe hbe'
        have hlow := lower_nat b hb
        by_cases g2 : a = 48
        · have t2 : ((a : Int) == 48) = true := by simp; omega
          obtain ⟨l, hl⟩ : ∃ l, low5 b = l := ⟨_, rfl⟩
          rw [hl] at hB hlow
          clear hl
          by_cases g3 : l = 120
          · have t3 : ((l : Int) == 120) = true := by simp; omega
            have HC := Lib.hid (hB.trans (if_pos ⟨g1, g2, g3⟩))
            clear hB hS g2 g3
            as_aux_lemma =>
              go_enter Tryz.func83, Tryz.ntmps83
              go_wp2_with fail
              go_step3
              go_upto_block 1 with (go_at_call 52; refine (Tryz.internal_strconv_lower _ _).mono ?_; rintro e w' ⟨rfl, hw'⟩; obtain rfl : w = w' := hw'.symm)
              go_step3
              go_upto_block 1 with fail
              rename_i KK hKK
              refine loop_hex s hs true 3 (by omega) w KK _ HC (fun m tr us dot dig nd nm dp j h1 h2 h3 => hKK _ _ ?_)
              refine rest_hex s hs true tr us dot dig m j nd nm dp h1 h2 w _ ?_ h3
              intro t v q1 q2
              exact bodyPost_ret (P := Tryz.prog) (fn := Tryz.f83) (R := fun e w' => RfPost s e ∧ w = w') (a := ⟨t, []⟩) q1 rfl ⟨q2, rfl⟩
          · have t3 : ((l : Int) == 120) = false := by simp; omega
            have HC := Lib.hid (hB.trans (if_neg (fun h => g3 h.2.2)))
            clear hB hS g2 g3
            as_aux_lemma =>
              go_enter Tryz.func83, Tryz.ntmps83
              go_wp2_with fail
              go_step3
              go_upto_block 1 with (go_at_call 52; refine (Tryz.internal_strconv_lower _ _).mono ?_; rintro e w' ⟨rfl, hw'⟩; obtain rfl : w = w' := hw'.symm)
              go_step3
              go_upto_block 1 with fail
              rename_i KK hKK
              refine loop_dec s hs true 1 (by omega) w KK _ HC (fun m tr us dot dig nd nm dp j h1 h2 h3 => hKK _ _ ?_)
              refine rest_dec s hs true tr us dot dig m j nd nm dp h1 h2 w _ ?_ h3
              intro t v q1 q2
              exact bodyPost_ret (P := Tryz.prog) (fn := Tryz.f83) (R := fun e w' => RfPost s e ∧ w = w') (a := ⟨t, []⟩) q1 rfl ⟨q2, rfl⟩
        · have t2 : ((a : Int) == 48) = false := by simp; omega
          have HC := Lib.hid (hB.trans (if_neg (fun h => g2 h.2.1)))
          clear hB hS g2
          as_aux_lemma =>
            go_enter Tryz.func83, Tryz.ntmps83
            go_wp2_with fail
            go_step3
            go_upto_block 1 with fail
            go_step3
            go_upto_block 1 with fail
            rename_i KK hKK
            refine loop_dec s hs true 1 (by omega) w KK _ HC (fun m tr us dot dig nd nm dp j h1 h2 h3 => hKK _ _ ?_)
            refine rest_dec s hs true tr us dot dig m j nd nm dp h1 h2 w _ ?_ h3
            intro t v q1 q2
            exact bodyPost_ret (P := Tryz.prog) (fn := Tryz.f83) (R := fun e w' => RfPost s e ∧ w = w') (a := ⟨t, []⟩) q1 rfl ⟨q2, rfl⟩
      · have t1 : decide (((1 : Nat) : Int) + 2 < (s.length : Int)) = false := by simp; omega
        have t1' : decide (((1 : Int)) + 2 < (s.length : Int)) = false := by simp; omega
        have t1n : ¬ 3 < s.length := by omega
        have t1i : decide ((3 : Int) < (s.length : Int)) = false := by simp; omega
        unfold rfB at hB
        have HC := Lib.hid (hB.trans (if_neg (fun h => g1 h.1)))
        clear hB hS
        as_aux_lemma =>
          go_enter Tryz.func83, Tryz.ntmps83
          go_wp2_with fail
          go_step3
          go_upto_block 1 with fail
          go_step3
          go_upto_block 1 with fail
          rename_i KK hKK
          refine loop_dec s hs true 1 (by omega) w KK _ HC (fun m tr us dot dig nd nm dp j h1 h2 h3 => hKK _ _ ?_)
          refine rest_dec s hs true tr us dot dig m j nd nm dp h1 h2 w _ ?_ h3
          intro t v q1 q2
          exact bodyPost_ret (P := Tryz.prog) (fn := Tryz.f83) (R := fun e w' => RfPost s e ∧ w = w') (a := ⟨t, []⟩) q1 rfl ⟨q2, rfl⟩
    · have u2 : ((c : Int) == 45) = false := by simp; omega
      have hS := hM.trans ((if_neg c43).trans (if_neg c45))
      clear hM hc
      have hB : rfM s = rfB s false 0 := hS
      by_cases g1 : 0 + 2 < s.length
      · have t1 : decide (((0 : Nat) : Int) + 2 < (s.length : Int)) = true := by simp; omega
        have t1' : decide (((0 : Int)) + 2 < (s.length : Int)) = true := by simp; omega
        have t1n : 2 < s.length := by omega
        have t1i : decide ((2 : Int) < (s.length : Int)) = true := by simp; omega
        have hi0 := fun (ww : World) => run_index_list (P := Tryz.prog) 9 s (0 : Int) 0 _ Tryz.underlying9 rfl (by omega) rfl ww
        have hi1 := fun (ww : World) => run_index_list (P := Tryz.prog) 9 s (1 : Int) 1 _ Tryz.underlying9 rfl (by omega) rfl ww
        have hb := (s.getD 1 0).toNat_lt
        unfold rfB at hB
        obtain ⟨b, hbe⟩ : ∃ b, (s.getD (0 + 1) 0).toNat = b := ⟨_, rfl⟩
        rw [HCC.out] at hB
        have hbe' : (s.getD 1 0).toNat = b := hbe
        rw [hbe] at hB
        rw [hbe'] at hi1 hb
        clear hi0 hbe hbe'
        have hlow := lower_nat b hb
        by_cases g2 : c = 48
        · have t2 : ((c : Int) == 48) = true := by simp; omega
          obtain ⟨l, hl⟩ : ∃ l, low5 b = l := ⟨_, rfl⟩
          rw [hl] at hB hlow
          clear hl
          by_cases g3 : l = 120
          · have t3 : ((l : Int) == 120) = true := by simp; omega
            have HC := Lib.hid (hB.trans (if_pos ⟨g1, g2, g3⟩))
            clear hB hS g2 g3
            as_aux_lemma =>
              go_enter Tryz.func83, Tryz.ntmps83
              go_wp2_with fail
              go_step3
              go_upto_block 1 with (go_at_call 52; refine (Tryz.internal_strconv_lower _ _).mono ?_; rintro e w' ⟨rfl, hw'⟩; obtain rfl : w = w' := hw'.symm)
              go_step3
              go_upto_block 1 with fail
              rename_i KK hKK
              refine loop_hex s hs false 2 (by omega) w KK _ HC (fun m tr us dot dig nd nm dp j h1 h2 h3 => hKK _ _ ?_)
              refine rest_hex s hs false tr us dot dig m j nd nm dp h1 h2 w _ ?_ h3
              intro t v q1 q2
              exact bodyPost_ret (P := Tryz.prog) (fn := Tryz.f83) (R := fun e w' => RfPost s e ∧ w = w') (a := ⟨t, []⟩) q1 rfl ⟨q2, rfl⟩
          · have t3 : ((l : Int) == 120) = false := by simp; omega
            have HC := Lib.hid (hB.trans (if_neg (fun h => g3 h.2.2)))
            clear hB hS g2 g3
            as_aux_lemma =>
              go_enter Tryz.func83, Tryz.ntmps83
              go_wp2_with fail
              go_step3
              go_upto_block 1 with (go_at_call 52; refine (Tryz.internal_strconv_lower _ _).mono ?_; rintro e w' ⟨rfl, hw'⟩; obtain rfl : w = w' := hw'.symm)
              go_step3
              go_upto_block 1 with fail
              rename_i KK hKK
              refine loop_dec s hs false 0 (by omega) w KK _ HC (fun m tr us dot dig nd nm dp j h1 h2 h3 => hKK _ _ ?_)
              refine rest_dec s hs false tr us dot dig m j nd nm dp h1 h2 w _ ?_ h3
              intro t v q1 q2
              exact bodyPost_ret (P := Tryz.prog) (fn := Tryz.f83) (R := fun e w' => RfPost s e ∧ w = w') (a := ⟨t, []⟩) q1 rfl ⟨q2, rfl⟩
        · have t2 : ((c : Int) == 48) = false := by simp; omega
          have HC := Lib.hid (hB.trans (if_neg (fun h => g2 h.2.1)))
          clear hB hS g2
          as_aux_lemma =>
            go_enter Tryz.func83, Tryz.ntmps83
            go_wp2_with fail
            go_step3
            go_upto_block 1 with fail
            go_step3
            go_upto_block 1 with fail
            rename_i KK hKK
            refine loop_dec s hs false 0 (by omega) w KK _ HC (fun m tr us dot dig nd nm dp j h1 h2 h3 => hKK _ _ ?_)
            refine rest_dec s hs false tr us dot dig m j nd nm dp h1 h2 w _ ?_ h3
            intro t v q1 q2
            exact bodyPost_ret (P := Tryz.prog) (fn := Tryz.f83) (R := fun e w' => RfPost s e ∧ w = w') (a := ⟨t, []⟩) q1 rfl ⟨q2, rfl⟩
      · have t1 : decide (((0 : Nat) : Int) + 2 < (s.length : Int)) = false := by simp; omega
        have t1' : decide (((0 : Int)) + 2 < (s.length : Int)) = false := by simp; omega
        have t1n : ¬ 2 < s.length := by omega
        have t1i : decide ((2 : Int) < (s.length : Int)) = false := by simp; omega
        unfold rfB at hB
        have HC := Lib.hid (hB.trans (if_neg (fun h => g1 h.1)))
        clear hB hS
        as_aux_lemma =>
          go_enter Tryz.func83, Tryz.ntmps83
          go_wp2_with fail
          go_step3
          go_upto_block 1 with fail
          go_step3
          go_upto_block 1 with fail
          rename_i KK hKK
          refine loop_dec s hs false 0 (by omega) w KK _ HC (fun m tr us dot dig nd nm dp j h1 h2 h3 => hKK _ _ ?_)
          refine rest_dec s hs false tr us dot dig m j nd nm dp h1 h2 w _ ?_ h3
          intro t v q1 q2
          exact bodyPost_ret (P := Tryz.prog) (fn := Tryz.f83) (R := fun e w' => RfPost s e ∧ w = w') (a := ⟨t, []⟩) q1 rfl ⟨q2, rfl⟩

set_option maxRecDepth 100000 in
set_option maxHeartbeats 400000 in
theorem readFloat_any (s : List UInt8) (hs : s.length ≤ 1000) (w : World) :
    Calls Tryz.prog 83 #[.string ⟨s.toArray⟩] w fun e w' => RfPost s e ∧ w = w' := by
  by_cases h0 : 0 < s.length
  · exact readFloat_some s hs h0 w
  · obtain rfl : s = [] := List.eq_nil_of_length_eq_zero (by omega)
    go_enter Tryz.func83, Tryz.ntmps83
    go_wp2_with fail
    go_step3
    go_wp2_with fail
    exact bodyPost_ret (P := Tryz.prog) (fn := Tryz.f83) (R := fun e w' => RfPost [] e ∧ w = w') (results_seven rfl _ _ _) rfl ⟨.inl ⟨rfl, _, _, _, _, _, _, rfl⟩, rfl⟩
end Go.Proofs.YtapkihcgnhofmaaGreatDoor
