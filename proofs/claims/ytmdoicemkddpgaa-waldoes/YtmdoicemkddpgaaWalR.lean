/- The walks of the reference of layer 6: Frame, Scan, Same. -/
import Derived.Test.YtmdoicemkddpgaaWalB
namespace Go.Proofs.Ytmdoicemkddpgaa
open Go.RowKit

set_option maxRecDepth 100000 in
set_option maxHeartbeats 400000 in
theorem refFrame_any (s : List UInt8) (hs : s.length ≤ 65535) (w : World) :
    Calls Try.prog 33 #[.string ⟨s.toArray⟩] w fun e w' => e = .returned (.string ⟨(frameOf s).toArray⟩) ∧ Below w.heap.size w w' := by
  have hcv := conv_laid (P := Try.prog) w 48 9 5 Try.underlying48 Try.underlying5 Try.underlying9 (headOf s.length) 2 rfl (by omega)
    #[.int .u8 ((s.length : Int) / 256 % 256), .int .u8 ((s.length : Int) % 256)]
    (by
      rw [byte_cell (s.length / 256) ((s.length : Int) / 256 % 256) (by omega), byte_cell s.length ((s.length : Int) % 256) (by omega)]
      rfl)
  have hhl := headOf_length s.length
  unfold frameOf
  obtain ⟨hd, hhd⟩ : ∃ hd, headOf s.length = hd := ⟨_, rfl⟩
  rw [hhd] at hcv hhl ⊢
  clear hhd
  have hof := fun (w : World) => refOf_any (hd ++ s) (by rw [List.length_append]; unfold maxLen; omega) w
  have hcl := crcOf_lt (hd ++ s)
  obtain ⟨c, hc⟩ : ∃ c, crcOf (hd ++ s) = c := ⟨_, rfl⟩
  rw [hc] at hof hcl ⊢
  clear hc
  have htl := tailOf_length c
  have hta := fun w => refTail_any c hcl w
  obtain ⟨t, ht⟩ : ∃ t, tailOf c = t := ⟨_, rfl⟩
  rw [ht] at hta htl ⊢
  clear ht
  have n1 : ¬ 9223372036854775807 < hd.length + s.length := by omega
  have n2 : ¬ 9223372036854775807 < hd.length + s.length + t.length := by omega
  have hs1 : ∀ o, (w.alloc o).heap.size = w.heap.size + 1 := fun o => by simp
  have hb1 : Below w.heap.size w (w.alloc (.cells #[.int .u8 ((s.length : Int) / 256 % 256), .int .u8 ((s.length : Int) % 256)] 5)) := (Below.refl w.heap.size w).alloc (Nat.le_refl _) _
  go_enter Try.func33, Try.ntmps33
  go_wp2_with fail
  rw [str_app]
  go_wp2_with fail
  refine (hof _).mono ?_
  rintro e w1 ⟨rfl, hw1⟩
  have hb1 : Below w.heap.size w w1 := by rw [← hw1]; exact hb1
  clear hw1 hof
  go_wp2_with fail
  refine (hta w1).mono ?_
  rintro e w2 ⟨rfl, hb2⟩
  go_wp2_with fail
  go_ret
  refine ⟨?_, below_join hb1 hb2 hb1.size⟩
  rw [str_app]
  rfl

set_option maxRecDepth 100000 in
set_option maxHeartbeats 400000 in
theorem same_any (A : Option Addr) (n cap : Nat) (ss : List (List UInt8)) (A2 : Option Addr) (n2 cap2 : Nat) (ts : List (List UInt8)) (w : World) (h1 : Strs w A n ss) (h2 : Strs w A2 n2 ts) (hn : n ≤ maxLen) (hm : n2 ≤ maxLen) (he : ss = ts) :
    Calls Try.prog 21 #[.slice A n cap, .slice A2 n2 cap2] w fun e w' => e = .returned (.bool true) ∧ Still w w' := by
  subst he
  obtain rfl : n = n2 := h1.1.symm.trans h2.1
  unfold maxLen at hn
  go_enter Try.func21, Try.ntmps21
  go_wp2_with fail
  go_loopw [13] (fun i wr => ∃ (k : Nat), i = .int .i64 k ∧ k ≤ n ∧ Still w wr) (fun i _ => n - (intOf i).toNat)
  case atStart => exact ⟨0, rfl, by omega, Still.refl _⟩
  case round =>
    obtain ⟨k, rfl, hk, hst⟩ := hrel
    by_cases hlt : k < n
    · obtain ⟨b, off, rfl, hbl, hcell⟩ := h1.2 (by omega)
      obtain ⟨b2, off2, rfl, hbl2, hcell2⟩ := h2.2 (by omega)
      have q1 : wr.cell? ⟨b, off + k, none⟩ = _ := (World.cell?_of_block (by rw [hst.heap])).trans (hcell k hlt)
      have q2 : wr.cell? ⟨b2, off2 + k, none⟩ = _ := (World.cell?_of_block (by rw [hst.heap])).trans (hcell2 k hlt)
      generalize ss.getD k [] = x at *
      clear hcell hcell2
      go_wp2_with fail
      go_quiet (fail)
      go_wp2_with fail
      exact ⟨⟨k + 1, by go_num, by omega, hst.trans (Still.drewN _ _)⟩, by simp [intOf]; omega⟩
    · obtain rfl : n = k := by omega
      go_wp2_with fail
      go_ret
      exact ⟨rfl, hst⟩
set_option maxRecDepth 100000 in
set_option maxHeartbeats 400000 in
theorem refScan_any (s : List UInt8) (hs : s.length ≤ 1000000) (w : World) :
    Calls Try.prog 20 #[.string ⟨s.toArray⟩] w fun e w' => ∃ A c, e = .returned (.tuple #[.slice A (scanOf s).length c, .int .i64 (took (scanOf s) : Nat)]) ∧ OwnsS w' w.heap.size (.slice A (scanOf s).length c) (scanOf s) ∧ Below w.heap.size w w' := by
  go_enter Try.func20, Try.ntmps20
  go_wp2_with fail
  go_loopw [4, 5] (fun t k wr => ∃ (rs : List (List UInt8)) (n : Nat), k = .int .i64 n ∧ OwnsS wr w.heap.size t rs ∧ Hid (took rs = n) ∧ n ≤ s.length ∧ Hid (rs ++ scanOf (s.drop n) = scanOf s) ∧ rs.length ≤ 1000000 ∧ Below w.heap.size w wr) (fun _ k _ => s.length - (intOf k).toNat)
  case atStart => exact ⟨[], 0, rfl, OwnsS.nil _ _, rfl, by omega, by show _ = _; simp, by simp, Below.refl _ _⟩
  case round =>
    obtain ⟨rs, n, rfl, hO, hT, hn, hS, hr, hb⟩ := hrel
    have e1 : (ByteArray.mk s.toArray).extract n s.length = ⟨(s.drop n).toArray⟩ := extract_drop s n
    have hdl : (s.drop n).length = s.length - n := List.length_drop
    obtain ⟨q, hq⟩ : ∃ q, s.drop n = q := ⟨_, rfl⟩
    have hdd : ∀ k, s.drop (n + k) = q.drop k := fun k => by rw [← hq, List.drop_drop]
    rw [hq] at e1 hS hdl
    have HD := Lib.hid hdd
    have HL := Lib.hid hdl
    have hql : q.length ≤ 1000000 := by omega
    have hE : firstOf q = none → rs = scanOf s := fun hc => by have := hS.out; rw [scanOf_none hc, List.append_nil] at this; exact this
    have HE := Lib.hid hE
    clear hq hdd hdl hE
    obtain ⟨A, c, rfl, _, _⟩ := hO.len
    have hend : ∀ w1, firstOf q = none → Still wr w1 ∨ Below wr.heap.size wr w1 → ∃ A' c', Ending.returned (Value.tuple #[.slice A rs.length c, .int .i64 n]) = .returned (.tuple #[.slice A' (scanOf s).length c', .int .i64 (took (scanOf s) : Nat)]) ∧ OwnsS w1 w.heap.size (.slice A' (scanOf s).length c') (scanOf s) ∧ Below w.heap.size w w1 := fun w1 hc hk => by
      have hk : Below wr.heap.size wr w1 := by
        rcases hk with hk | hk
        · exact hk.below _
        · exact hk
      rw [← HE.out hc, hT.out]
      exact ⟨A, c, rfl, hO.below hk (Nat.le_refl _), below_join hb hk hb.size⟩
    have HEND := Lib.hid hend
    clear hend
    by_cases h6 : q.length < 6
    · have h6' : decide ((q.length : Int) < 6) = true := by simp; omega
      go_wp2_with fail
      go_ret2
      exact HEND.out _ (firstOf_short (.inl h6)) (.inl (Still.refl _))
    · have h6' : decide ((q.length : Int) < 6) = false := by simp; omega
      have i0 := fun (ww : World) => run_index_list (P := Try.prog) 9 q 0 0 _ Try.underlying9 rfl (by omega) rfl ww
      have i1 := fun (ww : World) => run_index_list (P := Try.prog) 9 q 1 1 _ Try.underlying9 rfl (by omega) rfl ww
      have b0 := (q.getD 0 0).toNat_lt
      have b1 := (q.getD 1 0).toNat_lt
      have hN : headN q = (q.getD 0 0).toNat * 256 + (q.getD 1 0).toNat := rfl
      have hR := fun h => firstOf_ref (s := q) (by omega) h
      obtain ⟨x, hx⟩ : ∃ x, (q.getD 0 0).toNat = x := ⟨_, rfl⟩
      obtain ⟨y, hy⟩ : ∃ y, (q.getD 1 0).toNat = y := ⟨_, rfl⟩
      rw [hx, hy] at hN
      rw [hx] at i0 b0
      rw [hy] at i1 b1
      clear hx hy
      have h6'' : ¬ (q.length : Int) < 6 := by omega
      obtain ⟨N, hNe⟩ : ∃ N : Nat, x * 256 + y = N := ⟨_, rfl⟩
      have hNi : (x : Int) * 256 + (y : Int) = (N : Int) := by omega
      rw [hNe] at hN
      clear hNe
      have hN6 : N < 65536 := by rw [← hN]; exact headN_lt q
      have g1 : decide ((65535 : Int) < (N : Int)) = false := by simp; omega
      have g1' : ¬ (65535 : Int) < (N : Int) := by omega
      by_cases h7 : q.length < N + 6
      · have g2 : decide ((q.length : Int) < (N : Int) + 6) = true := by simp; omega
        have hc := firstOf_short (s := q) (.inr (by omega))
        have HC := Lib.hid hc
        clear hc hR
        go_wp2_with fail
        go_quiet (fail)
        have k2 := Still.drewN wr nq
        generalize wr.drewN nq = w3 at *
        go_wp2_with fail
        go_quiet (fail)
        go_wp2_with fail
        go_ret2
        exact HEND.out _ HC.out (.inl (k2.trans (Still.drewN _ _)))
      · have g2 : decide ((q.length : Int) < (N : Int) + 6) = false := by simp; omega
        have g2' : ¬ (q.length : Int) < (N : Int) + 6 := by omega
        have g3 : (N : Int) + 6 ≤ (q.length : Int) := by omega
        have v2 : IntKind.i64.wrap (2 + (N : Int)) = 2 + (N : Int) := by rw [IntKind.wrap_i64]; omega
        obtain ⟨M, hM⟩ : ∃ M : Int, (N : Int) + 6 = M := ⟨_, rfl⟩
        have v6 : IntKind.i64.wrap ((N : Int) + 6) = M := by rw [IntKind.wrap_i64]; omega
        have g6 : 0 ≤ M := by omega
        have g7 : decide ((q.length : Int) < M) = false := by rw [← hM]; exact g2
        have g8 : M ≤ (q.length : Int) := by omega
        have hR := hR (by omega)
        rw [hN] at hR
        have e2 : (ByteArray.mk q.toArray).extract 0 M.toNat = ⟨(q.take (N + 6)).toArray⟩ := by rw [show M.toNat = N + 6 by omega]; exact extract_take q (N + 6)
        have e3 : (ByteArray.mk q.toArray).extract 2 (2 + (N : Int)).toNat = ⟨((q.drop 2).take N).toArray⟩ := by rw [show (2 + (N : Int)).toNat = 2 + N by omega]; exact extract_mid q 2 N
        have g4 : 2 + (N : Int) ≤ (q.length : Int) := by omega
        have g5 : (2 : Int) ≤ 2 + (N : Int) := by omega
        have hrl : ((q.drop 2).take N).length = N := by rw [List.length_take, List.length_drop]; omega
        obtain ⟨r, hre⟩ : ∃ r, (q.drop 2).take N = r := ⟨_, rfl⟩
        obtain ⟨t, hte⟩ : ∃ t, q.take (N + 6) = t := ⟨_, rfl⟩
        have hfr := fun w => refFrame_any r (by rw [← hre, hrl]; omega) w
        rw [hre] at hR e3 hrl
        rw [hte] at hR e2
        obtain ⟨f, hfe⟩ : ∃ f, frameOf r = f := ⟨_, rfl⟩
        rw [hfe] at hR hfr
        clear hre hte hfe g2 g2' g3 hM
        by_cases hf : f = t
        · have hf' : (f == t) = true := by simp [hf]
          rw [if_pos hf] at hR
          have HR := Lib.hid hR
          clear hR hf
          go_wp2_with fail
          go_quiet (fail)
          have k2 := Still.drewN wr nq
          generalize wr.drewN nq = w3 at *
          go_wp2_with fail
          go_region_held3 (fun _ => True) (trivial)
            (first
              | (go_at_call 33; refine (hfr _).mono ?_; rintro e w4 ⟨rfl, b4⟩))
          have k2 := k2.trans (Still.drew w3)
          have hb4 : Below w.heap.size w w4 := below_join (hb.trans (k2.below _)) b4 (by rw [k2.size]; exact hb.size)
          have hO4 := (hO.below (k2.below wr.heap.size) (Nat.le_refl _)).below b4 (Nat.le_refl _)
          clear b4 k2 hfr
          go_wp2_with (at_builtin; refine OwnsS.append_op rfl _ _ 28 rfl Try.underlying28 hO4 r 9 rfl rfl hr hb4.size ?_)
          intro v5 w5 hO5 g5' c5 hv5 hG5
          subst hv5
          have hrs6 := took_ge rs
          have hl := HL.out
          obtain ⟨f1, f2, f3, f4⟩ := firstOf_some HR.out
          have hrn : n + (r.length + 6) ≤ s.length := by omega
          rw [hT.out] at hrs6
          clear f1 f3
          go_wp2_with fail
          refine ⟨⟨rs ++ [r], n + (r.length + 6), by go_num, hO5, ?_, hrn, ?_, by simp; omega, ?_⟩, by simp [intOf]; omega⟩
          · show _ = _
            rw [took_snoc, hT.out]
          · show _ = _
            rw [HD.out, ← hS.out, scanOf_some HR.out, List.append_assoc]
            rfl
          · exact ⟨hG5.grown.os.trans hb4.os, hG5.grown.tape.trans hb4.tape, hG5.grown.output.trans hb4.output, Nat.le_trans hb4.size hG5.grown.size, fun k hk => (hG5.grown.block k (by have := hb4.size; omega) (fun e => by have := (hO4.lt k e.symm).1; omega)).trans (hb4.block k hk)⟩
        · have hf' : (f == t) = false := by simp [hf]
          rw [if_neg hf] at hR
          have HR := Lib.hid hR
          clear hR hf
          go_wp2_with fail
          go_quiet (fail)
          have k2 := Still.drewN wr nq
          generalize wr.drewN nq = w3 at *
          go_wp2_with fail
          go_region_held3 (fun _ => True) (trivial)
            (first
              | (go_at_call 33; refine (hfr _).mono ?_; rintro e w4 ⟨rfl, b4⟩))
          have k2 := k2.trans (Still.drew w3)
          have b5 : Below wr.heap.size wr w4 := below_join (k2.below _) b4 (by rw [k2.size]; exact Nat.le_refl _)
          go_wp2_with fail
          go_ret2
          exact HEND.out _ HR.out (.inr b5)
end Go.Proofs.Ytmdoicemkddpgaa
