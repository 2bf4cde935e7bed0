/- The walks of package wal: Size, frame, first. -/
import Derived.Test.YtmdoicemkddpgaaWalM
import Derived.Test.YtmdoicemkddpgaaDiskB
import Derived.Deep.RegionHeld3
import Derived.BigQuiet
import Derived.WalkSmall
import Derived.Test.YtmdoicemkddpgaaInfo
namespace Go.Proofs.Ytmdoicemkddpgaa
open Go.RowKit

theorem str_app (a b : List UInt8) : (ByteArray.mk a.toArray) ++ (ByteArray.mk b.toArray) = ⟨(a ++ b).toArray⟩ := by
  apply ByteArray.ext
  simp
theorem or_head (a b : Nat) (ha : a < 256) (hb : b < 256) : bits .or .i64 ((a : Int) * 256) (b : Int) = ((a * 256 + b : Nat) : Int) := by
  have e : a * 256 ||| b = a * 256 + b := by
    have := Nat.shiftLeft_add_eq_or_of_lt (i := 8) (b := b) (by omega) a
    rw [Nat.shiftLeft_eq] at this
    exact this.symm
  have hx : a * 256 ||| b < 2 ^ 64 := by rw [e]; omega
  show IntKind.i64.wrap ((BitVec.ofInt 64 ((a : Int) * 256) ||| BitVec.ofInt 64 (b : Int)).toNat : Int) = _
  rw [BitVec.toNat_or, show (a : Int) * 256 = ((a * 256 : Nat) : Int) by omega, ofInt_u64 _ (by omega), ofInt_u64 b (by omega), e, IntKind.wrap_i64]
  omega

theorem size_any (s : List UInt8) (hs : s.length ≤ 9000000000000000000) (w : World) :
    Calls Try.prog 14 #[.string ⟨s.toArray⟩] w fun e w' => e = .returned (.int .i64 ((s.length + 6 : Nat) : Int)) ∧ w = w' := by
  go_enter Try.func14, Try.ntmps14
  go_wp2
  go_ret
  exact ⟨ret_int (by omega), rfl⟩

set_option maxRecDepth 100000 in
set_option maxHeartbeats 400000 in
theorem frame_any (s : List UInt8) (hs : s.length ≤ 65535) (w : World) :
    Calls Try.prog 29 #[.string ⟨s.toArray⟩] w fun e w' => e = .returned (.string ⟨(frameOf s).toArray⟩) ∧ Below w.heap.size w w' := by
  have hcv := conv_laid (P := Try.prog) w 48 9 5 Try.underlying48 Try.underlying5 Try.underlying9 (headOf s.length) 2 rfl (by omega)
    #[.int .u8 ((s.length : Int) / 256), .int .u8 ((s.length : Int) % 256)]
    (by
      rw [byte_cell (s.length / 256) ((s.length : Int) / 256) (by omega), byte_cell s.length ((s.length : Int) % 256) (by omega)]
      rfl)
  have hhl := headOf_length s.length
  unfold frameOf
  obtain ⟨hd, hhd⟩ : ∃ hd, headOf s.length = hd := ⟨_, rfl⟩
  rw [hhd] at hcv hhl ⊢
  clear hhd
  have hof := fun (w : World) ty => of_two hd s (by unfold maxLen; omega) (by unfold maxLen; omega) w ty
  have hcl := crcOf_lt (hd ++ s)
  obtain ⟨c, hc⟩ : ∃ c, crcOf (hd ++ s) = c := ⟨_, rfl⟩
  rw [hc] at hof hcl ⊢
  clear hc
  have htl := tailOf_length c
  have hta := fun w => tail_any c hcl w
  obtain ⟨t, ht⟩ : ∃ t, tailOf c = t := ⟨_, rfl⟩
  rw [ht] at hta htl ⊢
  clear ht
  have n1 : ¬ 9223372036854775807 < hd.length + s.length := by omega
  have n2 : ¬ 9223372036854775807 < hd.length + s.length + t.length := by omega
  have hs1 : ∀ o, (w.alloc o).heap.size = w.heap.size + 1 := fun o => by simp
  have hof1 := hof (w.alloc (.cells #[.int .u8 ((s.length : Int) / 256), .int .u8 ((s.length : Int) % 256)] 5)) 9
  rw [hs1] at hof1
  go_enter Try.func29, Try.ntmps29
  go_wp2_with fail
  refine hof1.mono ?_
  rintro e w1 ⟨rfl, hw1⟩
  have hb1 : Below w.heap.size w w1 := by rw [← hw1]; exact ((Below.refl w.heap.size w).alloc (Nat.le_refl _) _).alloc (by rw [hs1]; omega) _
  clear hw1 hof1 hof
  go_wp2_with fail
  refine (hta w1).mono ?_
  rintro e w2 ⟨rfl, hb2⟩
  rw [str_app]
  go_wp2_with fail
  go_ret
  refine ⟨?_, below_join hb1 hb2 hb1.size⟩
  rw [str_app]
  rfl

set_option maxRecDepth 100000 in
set_option maxHeartbeats 400000 in
theorem first_any (s : List UInt8) (hs : s.length ≤ 1000000) (w : World) :
    Calls Try.prog 34 #[.string ⟨s.toArray⟩] w fun e w' => e = .returned (checkRes (firstOf s)) ∧ Below w.heap.size w w' := by
  by_cases h2 : 2 ≤ s.length
  · have i0 := fun (ww : World) => run_index_list (P := Try.prog) 9 s 0 0 _ Try.underlying9 rfl (by omega) rfl ww
    have i1 := fun (ww : World) => run_index_list (P := Try.prog) 9 s 1 1 _ Try.underlying9 rfl (by omega) rfl ww
    have b0 := (s.getD 0 0).toNat_lt
    have b1 := (s.getD 1 0).toNat_lt
    have hN : headN s = (s.getD 0 0).toNat * 256 + (s.getD 1 0).toNat := rfl
    have hor := or_head _ _ b0 b1
    obtain ⟨x, hx⟩ : ∃ x, (s.getD 0 0).toNat = x := ⟨_, rfl⟩
    obtain ⟨y, hy⟩ : ∃ y, (s.getD 1 0).toNat = y := ⟨_, rfl⟩
    rw [hx, hy] at hor hN
    rw [hx] at i0 b0
    rw [hy] at i1 b1
    obtain ⟨n, hnn⟩ : ∃ n, x * 256 + y = n := ⟨_, rfl⟩
    rw [hnn] at hor hN
    have hn6 : n < 65536 := by omega
    clear hx hy hnn
    have h2' : ¬ (s.length : Int) < 2 := by omega
    by_cases hn : headN s + 6 ≤ s.length
    · have hF : firstOf s = (checkOf (s.take (headN s + 6))).map (fun b => b.drop 2) := by unfold firstOf; rw [if_pos ⟨h2, hn⟩]
      rw [hN] at hF hn
      have hC := fun w => check_any (s.take (n + 6)) (by unfold maxLen; rw [List.length_take]; omega) w
      have e1 : (ByteArray.mk s.toArray).extract 0 (2 + (n : Int) + 4).toNat = ⟨(s.take (n + 6)).toArray⟩ := by rw [show (2 + (n : Int) + 4).toNat = n + 6 by omega]; exact extract_take s (n + 6)
      have ht : decide ((s.length : Int) < 2 + (n : Int) + 4) = false := by simp; omega
      have ht' : ¬ (s.length : Int) < 2 + (n : Int) + 4 := by omega
      have ht2 : 2 + (n : Int) + 4 ≤ (s.length : Int) := by omega
      rw [hF]
      have hCb := fun b (h : checkOf (s.take (n + 6)) = some b) => (checkOf_some h).2
      rw [List.length_take, Nat.min_eq_left hn] at hCb
      obtain ⟨t, ht3⟩ : ∃ t, s.take (n + 6) = t := ⟨_, rfl⟩
      rw [ht3] at hC e1 hCb ⊢
      obtain ⟨r, hr⟩ : ∃ r, checkOf t = r := ⟨_, rfl⟩
      rw [hr] at hC hCb ⊢
      clear hF ht3 hr
      cases r with
      | none =>
        go_enter Try.func34, Try.ntmps34
        go_wp2_with fail
        go_quiet (fail)
        go_wp2_with fail
        refine (hC _).mono ?_
        rintro e w1 ⟨rfl, hb1⟩
        unfold checkRes
        go_wp2_with fail
        go_ret2
        exact ⟨rfl, below_join ((Still.drewN w nq).below _) hb1 (Nat.le_refl _)⟩
      | some b =>
        have hbl := hCb b rfl
        have e2 : (ByteArray.mk b.toArray).extract 2 b.length = ⟨(b.drop 2).toArray⟩ := extract_drop b 2
        have hb2 : ¬ b.length < 2 := by omega
        have hb3 : 2 ≤ b.length := by omega
        go_enter Try.func34, Try.ntmps34
        go_wp2_with fail
        go_quiet (fail)
        go_wp2_with fail
        refine (hC _).mono ?_
        rintro e w1 ⟨rfl, hb1⟩
        unfold checkRes
        go_wp2_with fail
        go_ret2
        refine ⟨?_, below_join ((Still.drewN w nq).below _) hb1 (Nat.le_refl _)⟩
        rfl
    · have hF : firstOf s = none := firstOf_short (.inr (by omega))
      rw [hF]
      clear hF
      have ht : decide ((s.length : Int) < 2 + (n : Int) + 4) = true := by simp; omega
      go_enter Try.func34, Try.ntmps34
      go_wp2_with fail
      go_quiet (fail)
      go_wp2_with fail
      go_ret2
      exact ⟨rfl, (Still.drewN w nq).below _⟩
  · have hF : firstOf s = none := firstOf_short (.inl (by omega))
    rw [hF]
    go_enter Try.func34, Try.ntmps34
    go_wp2_with fail
    go_ret2
    exact ⟨rfl, Below.refl _ _⟩
end Go.Proofs.Ytmdoicemkddpgaa
