/- The walks of package disk's Off and New, and of a disk that is nil. -/
import Derived.Test.YtmdoicemkddpgaaDiskC
namespace Go.Proofs.Ytmdoicemkddpgaa
open Go.RowKit
theorem xor_u8 (a t : UInt8) : bits .xor .u8 (a.toNat : Int) (t.toNat : Int) = (((a ^^^ t).toNat : Nat) : Int) := by
  rw [u8_xor_nat _ _ a.toNat_lt t.toNat_lt, UInt8.toNat_xor]
theorem set_last (xs : List UInt8) (n : Nat) (t : UInt8) (hn : n ≤ xs.length) (h0 : 0 < n) : (xs.take n).set (n - 1) ((xs.take n).getD (n - 1) 0 ^^^ t) = turned xs n t := by
  unfold turned
  apply List.ext_getElem?
  intro i
  rw [List.getElem?_set]
  have hg : (xs.take n).getD (n - 1) 0 = xs.getD (n - 1) 0 := by rw [List.getD_eq_getElem?_getD, List.getD_eq_getElem?_getD, List.getElem?_take, if_pos (by omega)]
  rw [hg]
  by_cases hi : n - 1 = i
  · subst hi
    rw [if_pos rfl, if_pos (by rw [List.length_take]; omega), List.getElem?_append_right (by rw [List.length_take]; omega)]
    have e : n - 1 - min (n - 1) xs.length = 0 := by omega
    simp [e]
  · rw [if_neg hi, List.getElem?_take]
    by_cases hlt : i < n
    · rw [if_pos hlt, List.getElem?_append_left (by rw [List.length_take]; omega), List.getElem?_take, if_pos (by omega)]
    · rw [if_neg hlt]
      symm
      apply List.getElem?_eq_none
      simp
      omega
theorem Wgrew.own {w : World} {b g i n c : Nat} {u : Value} : Wgrew w b (.slice (some ⟨g, 0, none⟩) n c) (w.setCell ⟨g, i, none⟩ u) (.slice (some ⟨g, 0, none⟩) n c) :=
  ⟨rfl, rfl, rfl, by simp [World.setCell], fun _ _ _ h => Below.heap_setCell _ _ _ _ (fun e => h (by rw [e]; rfl)), fun _ h => .inl h⟩
theorem Bts.some {w : World} {base : Nat} {e : TypeId} {v : Value} {xs : List UInt8} (h : Bts w base e v xs) (h0 : 0 < xs.length) : ∃ g cap, v = .slice (some ⟨g, 0, none⟩) xs.length cap ∧ xs.length ≤ cap := by
  rcases h with ⟨_, rfl⟩ | ⟨g, cap, cur, rfl, _, _, h1, _⟩
  · simp at h0
  · exact ⟨g, cap, rfl, h1⟩
section
variable {w : World} {base b : Nat} {v : Value} {D : Dk}
set_option maxRecDepth 100000 in
set_option maxHeartbeats 400000 in
theorem off_any (hD : Dsk w base b v D) (hk : D.Ok) (keep : Int) (t : UInt8) :
    Calls Try.prog 18 #[.pointer (some ⟨b, 0, none⟩), .int .i64 keep, .int .u8 (t.toNat : Int)] w fun e w' => e = .returned (.tuple #[]) ∧ ∃ v', Dsk w' base b v' (D.off keep t) ∧ Wgrew w b v w' v' := by
  have c0 : w.cell? ⟨b, 0, none⟩ = some v := At.cell hD.at_ 0
  have c1 : w.cell? ⟨b, 1, none⟩ = some (.int .i64 D.safe) := At.cell hD.at_ 1
  have c4 : w.cell? ⟨b, 4, none⟩ = some (.bool D.down) := At.cell hD.at_ 4
  obtain ⟨A, cap, rfl, hl, hm⟩ := hD.bts.len
  have h1 := hk.full
  have h2 := hk.size
  have h3 := hk.safe
  unfold Dk.off
  cases hd : D.down
  · rw [if_neg Bool.false_ne_true]
    rw [hd] at c4
    have hlim := fun w' => limit_any keep (D.xs.length - D.safe) w'
    have hK : min keep.toNat (D.xs.length - D.safe) = D.kept keep := rfl
    have hkl := kept_le D keep
    rw [hK] at hlim
    clear hK
    obtain ⟨K, hK⟩ : ∃ K, D.kept keep = K := ⟨_, rfl⟩
    rw [hK] at hlim hkl ⊢
    clear hK
    have hwr : IntKind.i64.wrap ((D.xs.length : Int) - (D.safe : Int)) = ((D.xs.length - D.safe : Nat) : Int) := by rw [IntKind.wrap_i64]; omega
    have hlim' : ∀ w', Calls Try.prog 25 #[.int .i64 keep, .int .i64 (IntKind.i64.wrap ((D.xs.length : Int) - (D.safe : Int)))] w' fun e w'' => e = .returned (.int .i64 (K : Int)) ∧ w' = w'' := by rw [hwr]; exact hlim
    clear hwr hlim
    by_cases h0 : K = 0
    · rw [if_pos h0]
      have hK0 : decide ((0 : Int) < (K : Int)) = false := by simp; omega
      have hK1 : ¬ 0 < K := by omega
      have H0 := Lib.hid h0
      clear h0
      go_enter Try.func18, Try.ntmps18
      go_wp2_with fail
      go_quiet ((go_at_call 25; refine Calls.quiet_of_same ((hlim' _).mono fun _ _ h => ⟨h.1, h.2.symm⟩)))
      go_wp2_with fail
      refine (cut_any (hD.still (Still.drewN w nq)) (D.safe + K) (by omega)).mono ?_
      rintro e w1 ⟨rfl, v1, hD1, hG1⟩
      have hG1' := (Wgrew.still (b := b) (v := .slice A D.xs.length cap) (Still.drewN w nq)).trans hG1
      clear hG1 hlim'
      have hD2 : Dsk w1 base b v1 { D with xs := D.xs.take D.safe } := by rw [H0.out] at hD1; exact hD1
      have c4' : w1.cell? ⟨b, 4, none⟩ = some (.bool D.down) := At.cell hD2.at_ 4
      have f4 := At.unfrozen hD2.at_ 4
      have q4 := hD2.write 4 (.bool true) { D with xs := D.xs.take D.safe, down := true } rfl rfl
      go_wp2_with fail
      go_end0
      exact ⟨rfl, v1, q4, hG1'.trans Wgrew.set⟩
    · rw [if_neg h0]
      have hK0 : decide ((0 : Int) < (K : Int)) = true := by simp; omega
      have hK1 : 0 < K := by omega
      clear h0
      go_enter Try.func18, Try.ntmps18
      go_wp2_with fail
      go_quiet ((go_at_call 25; refine Calls.quiet_of_same ((hlim' _).mono fun _ _ h => ⟨h.1, h.2.symm⟩)))
      go_wp2_with fail
      refine (cut_any (hD.still (Still.drewN w nq)) (D.safe + K) (by omega)).mono ?_
      rintro e w1 ⟨rfl, v1, hD1, hG1⟩
      have hG1' := (Wgrew.still (b := b) (v := .slice A D.xs.length cap) (Still.drewN w nq)).trans hG1
      clear hG1 hlim'
      have hlen : (D.xs.take (D.safe + K)).length = D.safe + K := by rw [List.length_take]; omega
      have hne := hD1.apart
      obtain ⟨g, cap1, rfl, hcap⟩ := Bts.some hD1.bts (by show 0 < (D.xs.take (D.safe + K)).length; omega)
      have hx := hD1.bts.cell (i := D.safe + K - 1) (by show _ < (D.xs.take (D.safe + K)).length; omega)
      have hfx := hD1.bts.unfrozen (D.safe + K - 1)
      have hput := hD1.bts.put (i := D.safe + K - 1) ((D.xs.take (D.safe + K)).getD (D.safe + K - 1) 0 ^^^ t)
      have hst : (D.xs.take (D.safe + K)).set (D.safe + K - 1) ((D.xs.take (D.safe + K)).getD (D.safe + K - 1) 0 ^^^ t) = turned D.xs (D.safe + K) t := set_last D.xs (D.safe + K) t (by omega) (by omega)
      have hxor := xor_u8 ((D.xs.take (D.safe + K)).getD (D.safe + K - 1) 0) t
      have hx' : w1.cell? ⟨g, D.safe + K - 1, none⟩ = some (.int .u8 ((((D.xs.take (D.safe + K)).getD (D.safe + K - 1) 0).toNat : Nat) : Int)) := hx
      have hput' : Bts (w1.setCell ⟨g, D.safe + K - 1, none⟩ (.int .u8 ((((D.xs.take (D.safe + K)).getD (D.safe + K - 1) 0 ^^^ t).toNat : Nat) : Int))) base 5 (.slice (some ⟨g, 0, none⟩) (D.xs.take (D.safe + K)).length cap1) ((D.xs.take (D.safe + K)).set (D.safe + K - 1) ((D.xs.take (D.safe + K)).getD (D.safe + K - 1) 0 ^^^ t)) := hput
      rw [hst] at hput'
      have hA1 : At w1 b 50 #[.slice (some ⟨g, 0, none⟩) (D.xs.take (D.safe + K)).length cap1, .int .i64 D.safe, .int .i64 D.size, .int .i64 D.boots, .bool D.down] := hD1.at_
      have hG2 : Wgrew w b (.slice A D.xs.length cap) w1 (.slice (some ⟨g, 0, none⟩) (D.xs.take (D.safe + K)).length cap1) := hG1'
      rw [hlen] at hA1 hput' hG2
      clear hx hput hst hG1' hD1
      obtain ⟨x, hxe⟩ : ∃ x, (D.xs.take (D.safe + K)).getD (D.safe + K - 1) 0 = x := ⟨_, rfl⟩
      rw [hxe] at hx' hput' hxor
      clear hxe hlen hcap
      obtain ⟨N, hN⟩ : ∃ N, D.safe + K = N := ⟨_, rfl⟩
      have hN1 : 0 < N := by omega
      have hN2 : N ≤ 262144 := by omega
      rw [hN] at hA1 hput' hG2 hx' hfx
      have c0' : w1.cell? ⟨b, 0, none⟩ = Option.some (.slice (Option.some ⟨g, 0, none⟩) N cap1) := At.cell hA1 0
      have c4' : w1.cell? ⟨b, 4, none⟩ = Option.some (.bool D.down) := At.cell hA1 4
      have f4 := At.unfrozen hA1 4
      have hbg : b ≠ g := fun e => hne (by rw [e]; rfl)
      go_wp2_with fail
      go_region
      all_goals
        go_wp2_with fail
        go_end0
        rw [← UInt8.toNat_xor, hN]
        have hq : Dsk (w1.setCell ⟨g, N - 1, none⟩ (.int .u8 (((x ^^^ t).toNat : Nat) : Int))) base b (.slice (Option.some ⟨g, 0, none⟩) N cap1) { D with xs := turned D.xs N t } := ⟨hA1.elsewhere (p := ⟨g, N - 1, none⟩) hbg _, hput'⟩
        have q4 := hq.write 4 (.bool true) { D with xs := turned D.xs N t, down := true } rfl rfl
        exact ⟨rfl, _, q4.still (Still.drew _), ((hG2.trans Wgrew.own).trans Wgrew.set).trans (Wgrew.still (Still.drew _))⟩
  · rw [if_pos rfl]
    rw [hd] at c4
    go_enter Try.func18, Try.ntmps18
    go_wp2_with fail
    refine bodyPost_ret (results_none rfl _ _ _) rfl ?_
    exact ⟨rfl, _, hD, Wgrew.refl _ _ _⟩
end

set_option maxRecDepth 100000 in
set_option maxHeartbeats 400000 in
theorem new_any (n : Int) (w : World) :
    Calls Try.prog 10 #[.int .i64 n] w fun e w' => e = .returned (.pointer (some ⟨w.heap.size, 0, none⟩)) ∧ Dsk w' w.heap.size w.heap.size (.slice none 0 0) (dkNew n) ∧ Below w.heap.size w w' ∧ w'.heap.size = w.heap.size + 1 := by
  have hlim := limit_any n 262144 w
  go_enter Try.func10, Try.ntmps10
  go_wp2_with fail
  refine hlim.mono ?_
  rintro e w' ⟨rfl, rfl⟩
  go_wp2_with fail
  go_ret
  exact ⟨rfl, ⟨At.fresh _ _ _, Bts.nil _ _ _⟩, (Below.refl _ _).alloc (Nat.le_refl _) _, by simp⟩

theorem nil_append (s : ByteArray) (w : World) : Calls Try.prog 28 #[.pointer none, .string s] w fun e w' => e = .returned (.int .i64 2) ∧ w = w' := by
  go_enter Try.func28, Try.ntmps28
  go_wp2
  go_ret
  exact ⟨rfl, rfl⟩
theorem nil_sync (w : World) : Calls Try.prog 30 #[.pointer none] w fun e w' => e = .returned (.int .i64 2) ∧ w = w' := by
  go_enter Try.func30, Try.ntmps30
  go_wp2
  go_ret
  exact ⟨rfl, rfl⟩
theorem nil_trim (n : Int) (w : World) : Calls Try.prog 26 #[.pointer none, .int .i64 n] w fun e w' => e = .returned (.int .i64 2) ∧ w = w' := by
  go_enter Try.func26, Try.ntmps26
  go_wp2
  go_ret
  exact ⟨rfl, rfl⟩
theorem nil_read (w : World) : Calls Try.prog 17 #[.pointer none] w fun e w' => e = .returned (.string ⟨#[]⟩) ∧ w = w' := by
  go_enter Try.func17, Try.ntmps17
  go_wp2
  go_ret
  exact ⟨rfl, rfl⟩
theorem nil_down (w : World) : Calls Try.prog 27 #[.pointer none] w fun e w' => e = .returned (.bool false) ∧ w = w' := by
  go_enter Try.func27, Try.ntmps27
  go_wp2
  go_ret
  exact ⟨rfl, rfl⟩
theorem nil_safe (w : World) : Calls Try.prog 16 #[.pointer none] w fun e w' => e = .returned (.int .i64 0) ∧ w = w' := by
  go_enter Try.func16, Try.ntmps16
  go_wp2
  go_ret
  exact ⟨rfl, rfl⟩
theorem nil_left (w : World) : Calls Try.prog 12 #[.pointer none] w fun e w' => e = .returned (.int .i64 0) ∧ w = w' := by
  go_enter Try.func12, Try.ntmps12
  go_wp2
  go_ret
  exact ⟨rfl, rfl⟩
theorem nil_off (n : Int) (t : Int) (w : World) : Calls Try.prog 18 #[.pointer none, .int .i64 n, .int .u8 t] w fun e w' => e = .returned (.tuple #[]) ∧ w = w' := by
  go_enter Try.func18, Try.ntmps18
  go_wp2
  refine bodyPost_ret (results_none rfl _ _ _) rfl ?_
  exact ⟨rfl, rfl⟩
theorem nil_on (w : World) : Calls Try.prog 19 #[.pointer none] w fun e w' => e = .returned (.tuple #[]) ∧ w = w' := by
  go_enter Try.func19, Try.ntmps19
  go_wp2
  refine bodyPost_ret (results_none rfl _ _ _) rfl ?_
  exact ⟨rfl, rfl⟩
end Go.Proofs.Ytmdoicemkddpgaa
