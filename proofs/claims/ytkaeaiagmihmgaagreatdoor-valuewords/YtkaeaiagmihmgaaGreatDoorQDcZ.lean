/- The slow decimal road: set, walked. -/
import Derived.Test.YtkaeaiagmihmgaaGreatDoorQDcY
namespace Go.Proofs.YtkaeaiagmihmgaaGreatDoor
open Go.RowKit

/-- Digits that count, or none. -/
def Num0 (F : Nat → Nat) (n : Nat) : Prop := n = 0 ∨ Num F n
theorem Num0.more {F : Nat → Nat} {n b : Nat} (h : Num0 F n) (h1 : 48 ≤ b) (h2 : b ≤ 57) (h0 : ¬ (b = 48 ∧ n = 0)) (hn : n < 800) : Num0 (upd F n b) (n + 1) := by
  refine .inr ?_
  rcases h with rfl | h
  · refine ⟨by omega, by omega, fun i hi => ?_, ?_⟩
    · obtain rfl : i = 0 := by omega
      rw [upd_same]; omega
    · rw [upd_same]; omega
  · have hp := h.pos
    refine ⟨by omega, by omega, fun i hi => ?_, ?_⟩
    · by_cases e : i = n
      · subst e; rw [upd_same]; omega
      · rw [upd_other F b e]; exact h.dig i (by omega)
    · rw [upd_other F b (by omega)]; exact h.first
/-- What set leaves. -/
def SetPost (w : World) (g : Nat) (w' : World) : Prop := (∃ (F : Nat → Nat) (n : Nat) (d : Int) (ng tr : Bool), Dec w' g F n d ng tr ∧ Num0 F n) ∧ w.grownBy w' (some g)
theorem SetPost.mk {w w' : World} {g : Nat} {F : Nat → Nat} {n : Nat} {d : Int} {ng tr : Bool} (h : Dec w' g F n d ng tr) (hn : Num0 F n) (hG : w.grownBy w' (some g)) : SetPost w g w' := ⟨⟨F, n, d, ng, tr, h, hn⟩, hG⟩

def IsByte (e : Ending) : Prop := ∃ x : Int, e = .returned (.int .u8 x)
theorem low_any (c : Int) (w : World) : Calls Tryz.prog 88 #[.int .u8 c] w fun e w' => IsByte e ∧ w = w' := by
  go_enter Tryz.func88, Tryz.ntmps88
  go_wp2_with fail
  go_ret
  exact ⟨⟨_, rfl⟩, rfl⟩

set_option maxRecDepth 1000000 in
set_option maxHeartbeats 3200000 in
theorem set_any (w : World) (g : Nat) (s : List UInt8) (hs : s.length ≤ 100) (F : Nat → Nat) (dp : Int) (neg trunc : Bool) (hDec : Dec w g F (0 : Nat) dp neg trunc) :
    Calls Tryz.prog 133 #[.pointer (some ⟨g, 0, none⟩), .string ⟨s.toArray⟩] w fun e w' => IsBool e ∧ SetPost w g w' := by
  have hD1 := hDec.putNeg false
  have hD2 := hD1.putTrunc false
  have hG2 := grownBy_tr (grown_put w g 802 (.bool false)) (grown_put _ g 803 (.bool false))
  have c2 := hDec.cG
  have c3 := hDec.cT
  have f2 := hDec.unfrozen 802
  have f3 := hDec.unfrozen 803
  by_cases h0 : s.length = 0
  · have hs0 : s = [] := List.eq_nil_of_length_eq_zero h0
    subst hs0
    go_enter Tryz.func133, Tryz.ntmps133
    go_wp2_with fail
    go_ret
    exact ⟨IsBool.mk _, SetPost.mk hD2 (.inl rfl) hG2⟩
  have q0 : decide ((s.length : Int) ≤ 0) = false := decide_eq_false (by omega)
  have q0' : ¬ (s.length : Int) ≤ 0 := by omega
  have hix := fun (ww : World) => run_index_list (P := Tryz.prog) 9 s 0 0 _ Tryz.underlying9 rfl (by omega) rfl ww
  obtain ⟨a, ha⟩ : ∃ a, (s.getD 0 0).toNat = a := ⟨_, rfl⟩
  rw [ha] at hix
  clear ha
  go_enter Tryz.func133, Tryz.ntmps133
  go_upto_block 0 with fail
  generalize hW : ((w.setCell ⟨g, 802, none⟩ (.bool false)).setCell ⟨g, 803, none⟩ (.bool false)) = w2 at *
  clear hW
  go_cut [5] (fun iv wx => ∃ (i : Nat) (ng : Bool), iv = .int .i64 (i : Int) ∧ i ≤ s.length ∧ Dec wx g F (0 : Nat) dp ng false ∧ w.grownBy wx (some g))
  case first =>
    have g2 := hD2.cG
    have k2 := hD2.unfrozen 802
    by_cases h43 : a = 43
    · have r1 : ((a : Int) == 43) = true := by simp [h43]
      clear h43
      go_wp2_with fail
      go_meet
      case rel => exact ⟨1, false, by rfl, by omega, hD2, hG2⟩
    · have r1 : ((a : Int) == 43) = false := beq_eq_false_iff_ne.2 (by omega)
      by_cases h45 : a = 45
      · have r2 : ((a : Int) == 45) = true := by simp [h45]
        have hD3 := hD2.putNeg true
        have hG3 := grownBy_tr hG2 (grown_put w2 g 802 (.bool true))
        clear h45 h43
        go_wp2_with fail
        go_meet
        case rel => exact ⟨1, true, by rfl, by omega, hD3, hG3⟩
      · have r2 : ((a : Int) == 45) = false := beq_eq_false_iff_ne.2 (by omega)
        go_wp2_with fail
        go_meet
        case rel => exact ⟨0, false, rfl, by omega, hD2, hG2⟩
  case rest =>
  obtain ⟨i0, ng, rfl, hi0, hD3, hG3⟩ := hcut
  clear hD1 hD2 hG2 c2 c3 f2 f3 hix q0 q0'
  go_upto_block 1 with fail
  go_cut [5, 6, 7] (fun iv dv gv wx => ∃ (i : Nat) (dot dig : Bool) (F' : Nat → Nat) (n : Nat) (d : Int) (tr : Bool), iv = .int .i64 (i : Int) ∧ dv = .bool dot ∧ gv = .bool dig ∧ i ≤ s.length ∧ Num0 F' n ∧ Dec wx g F' n d ng tr ∧ w.grownBy wx (some g))
  case first =>
    as_aux_lemma =>
    go_wp2_with fail
    go_loopw [5, 6, 7] (fun iv dv gv wr => ∃ (i : Nat) (dot dig : Bool) (F' : Nat → Nat) (n : Nat) (d : Int) (tr : Bool), iv = .int .i64 (i : Int) ∧ dv = .bool dot ∧ gv = .bool dig ∧ i ≤ s.length ∧ n ≤ i ∧ Num0 F' n ∧ Dec wr g F' n d ng tr ∧ w.grownBy wr (some g)) (fun iv _ _ _ => s.length - (intOf iv).toNat)
    case atStart => exact ⟨i0, false, false, F, 0, dp, false, rfl, rfl, rfl, hi0, by omega, .inl rfl, hD3, hG3⟩
    case round =>
      obtain ⟨i, dot, dig, F', n, d, tr, rfl, rfl, rfl, hi, hni, hN, hD, hG⟩ := hrel
      by_cases hlt : i < s.length
      · have q1 : decide ((i : Int) < (s.length : Int)) = true := by simp; omega
        have hix := fun (ww : World) => run_index_list (P := Tryz.prog) 9 s (i : Int) i _ Tryz.underlying9 rfl hlt rfl ww
        obtain ⟨b, hb⟩ : ∃ b, (s.getD i 0).toNat = b := ⟨_, rfl⟩
        rw [hb] at hix
        clear hb
        have y1 : IntKind.i64.wrap ((i : Int) + 1) = ((i + 1 : Nat) : Int) := by rw [IntKind.wrap_i64]; omega
        have c0 := hD.cN
        have c1 := hD.cP
        have f0 := hD.unfrozen 800
        have f1 := hD.unfrozen 801
        by_cases h95 : b = 95
        · have r1 : ((b : Int) == 95) = true := by simp [h95]
          clear h95
          go_wp2_with fail
          exact ⟨⟨i + 1, dot, dig, F', n, d, tr, by go_num, rfl, rfl, by omega, by omega, hN, hD, hG⟩, by simp [intOf]; omega⟩
        have r1 : ((b : Int) == 95) = false := beq_eq_false_iff_ne.2 (by omega)
        by_cases h46 : b = 46
        · have r2 : ((b : Int) == 46) = true := by simp [h46]
          clear h46
          cases dot with
          | true =>
            go_wp2_with fail
            go_ret
            exact ⟨IsBool.mk _, SetPost.mk hD hN hG⟩
          | false =>
            have hD4 := hD.putDp (n : Int)
            have hG4 := grownBy_tr hG (grown_put wr g 801 (.int .i64 (n : Int)))
            go_wp2_with fail
            exact ⟨⟨i + 1, true, dig, F', n, n, tr, by go_num, rfl, rfl, by omega, by omega, hN, hD4, hG4⟩, by simp [intOf]; omega⟩
        have r2 : ((b : Int) == 46) = false := beq_eq_false_iff_ne.2 (by omega)
        by_cases hdg : 48 ≤ b ∧ b ≤ 57
        · have r3 : decide ((48 : Int) ≤ (b : Int)) = true := by simp; omega
          have r4 : decide ((b : Int) ≤ 57) = true := by simp; omega
          have r3' : (48 : Int) ≤ (b : Int) := by omega
          have r4' : (b : Int) ≤ 57 := by omega
          by_cases h48 : b = 48 ∧ n = 0
          · have r5 : ((b : Int) == 48) = true := by simp [h48.1]
            have r6 : ((n : Int) == 0) = true := by simp [h48.2]
            obtain ⟨d4, hd4⟩ : ∃ x : Int, IntKind.i64.wrap (d - 1) = x := ⟨_, rfl⟩
            have hD4 := hD.putDp d4
            have hG4 := grownBy_tr hG (grown_put wr g 801 (.int .i64 d4))
            clear h48
            go_wp2_with fail
            exact ⟨⟨i + 1, dot, true, F', n, d4, tr, by go_num, rfl, rfl, by omega, by omega, hN, hD4, hG4⟩, by simp [intOf]; omega⟩
          · have hNx := hN.more hdg.1 hdg.2 h48 (by omega)
            have hn8 : (n : Int) < 800 := by omega
            have r7 : decide ((n : Int) < 800) = true := by simp; omega
            have cn : wr.cell? ⟨g, n, none⟩ = _ := hD.cell (i := n) (by omega)
            have fn := hD.unfrozen n
            have y2 : IntKind.i64.wrap ((n : Int) + 1) = ((n + 1 : Nat) : Int) := by rw [IntKind.wrap_i64]; omega
            have hD4 := hD.putD (show n < 800 by omega) b
            have hG4 := grownBy_tr hG (grown_put wr g n (.int .u8 (b : Int)))
            have hcase : ((b : Int) == 48) = false ∨ (((b : Int) == 48) = true ∧ ((n : Int) == 0) = false) := by
              by_cases e : b = 48
              · exact .inr ⟨by simp [e], beq_eq_false_iff_ne.2 (fun e2 => h48 ⟨e, by omega⟩)⟩
              · exact .inl (beq_eq_false_iff_ne.2 (by omega))
            have HNX := Lib.hid hNx
            clear h48 hNx
            rcases hcase with r5 | ⟨r5, r6⟩
            all_goals
              go_wp2_with fail
              go_region
              all_goals
                have hD5 : Dec (wr.setCell ⟨g, n, none⟩ (.int .u8 (b : Int))).drew g (upd F' n b) n d ng tr := hD4.keep rfl
                have hG5 : w.grownBy (wr.setCell ⟨g, n, none⟩ (.int .u8 (b : Int))).drew (some g) := grownBy_tr hG4 (grown_drew _ 1 _)
                clear c0 c1 f0 f1 cn fn hD4 hG4 hD hG
                generalize (wr.setCell ⟨g, n, none⟩ (.int .u8 (b : Int))).drew = w5 at hD5 hG5 ⊢
                have d0 := hD5.cN
                have k0 := hD5.unfrozen 800
                obtain ⟨n', hn'⟩ : ∃ m, n + 1 = m := ⟨_, rfl⟩
                rw [hn'] at y2 HNX
                have hD6 := hD5.putNd (n' : Int)
                have hG6 := grownBy_tr hG5 (grown_put w5 g 800 (.int .i64 (n' : Int)))
                have hn1 : n' ≤ i + 1 := by omega
                clear hn'
                go_wp2_with fail
                exact ⟨⟨i + 1, dot, true, upd F' n b, n', d, tr, by go_num, rfl, rfl, by omega, hn1, HNX.out, hD6, hG6⟩, by simp [intOf]; omega⟩
        · have hcase : decide ((48 : Int) ≤ (b : Int)) = false ∨ (decide ((48 : Int) ≤ (b : Int)) = true ∧ decide ((b : Int) ≤ 57) = false) := by
            by_cases e : 48 ≤ b
            · exact .inr ⟨by simp; omega, by simp; omega⟩
            · exact .inl (by simp; omega)
          clear hdg
          rcases hcase with r3 | ⟨r3, r4⟩
          all_goals
            go_wp2_with fail
            go_meet
            case rel => exact ⟨i, dot, dig, F', n, d, tr, rfl, rfl, rfl, hi, hN, hD, hG⟩
      · have q1 : decide ((i : Int) < (s.length : Int)) = false := by simp; omega
        go_wp2_with fail
        go_meet
        case rel => exact ⟨i, dot, dig, F', n, d, tr, rfl, rfl, rfl, hi, hN, hD, hG⟩
  case rest =>
  as_aux_lemma =>
  obtain ⟨i, dot, dig, F1, n, d1, tr, rfl, rfl, rfl, hi, hN, hD, hG⟩ := hcut
  clear hD3 hG3
  cases dig with
  | false =>
    go_wp2_with fail
    go_ret
    exact ⟨IsBool.mk _, SetPost.mk hD hN hG⟩
  | true =>
  have b0 := hD.cN
  have b1 := hD.cP
  have e1 := hD.unfrozen 801
  go_upto_if 120 with fail
  go_cut [5] (fun iv wx => ∃ (d : Int), iv = .int .i64 (i : Int) ∧ Dec wx g F1 n d ng tr ∧ w.grownBy wx (some g))
  case first =>
    cases dot with
    | true =>
      go_wp2_with fail
      go_meet
      case rel => exact ⟨d1, rfl, hD, hG⟩
    | false =>
      have hD4 := hD.putDp (n : Int)
      have hG4 := grownBy_tr hG (grown_put _ g 801 (.int .i64 (n : Int)))
      go_wp2_with fail
      go_meet
      case rel => exact ⟨n, rfl, hD4, hG4⟩
  case rest =>
  as_aux_lemma =>
  obtain ⟨d, rfl, hD5, hG5⟩ := hcut
  clear hD hG b0 b1 e1 d1
  by_cases hil : i < s.length
  · have q1 : decide ((i : Int) < (s.length : Int)) = true := by simp; omega
    have hix := fun (ww : World) => run_index_list (P := Tryz.prog) 9 s (i : Int) i _ Tryz.underlying9 rfl hil rfl ww
    obtain ⟨b, hb⟩ : ∃ b, (s.getD i 0).toNat = b := ⟨_, rfl⟩
    rw [hb] at hix
    clear hb
    go_wp2_with fail
    refine (low_any (b : Int) wc).mono ?_
    rintro e w6 ⟨⟨x, rfl⟩, rfl⟩
    by_cases hx : x = 101
    · have q2 : (x == 101) = true := by simp [hx]
      have y1 : IntKind.i64.wrap ((i : Int) + 1) = ((i + 1 : Nat) : Int) := by rw [IntKind.wrap_i64]; omega
      obtain ⟨i2, hi2⟩ : ∃ m, i + 1 = m := ⟨_, rfl⟩
      rw [hi2] at y1
      by_cases hil2 : i2 < s.length
      · have q3 : decide ((s.length : Int) ≤ (i2 : Int)) = false := by simp; omega
        have hix2 := fun (ww : World) => run_index_list (P := Tryz.prog) 9 s (i2 : Int) i2 _ Tryz.underlying9 rfl hil2 rfl ww
        obtain ⟨a2, ha2⟩ : ∃ b, (s.getD i2 0).toNat = b := ⟨_, rfl⟩
        rw [ha2] at hix2
        clear ha2 hx hi2 hix
        have y3 : IntKind.i64.wrap ((i2 : Int) + 1) = ((i2 + 1 : Nat) : Int) := by rw [IntKind.wrap_i64]; omega
        obtain ⟨i3, hi3⟩ : ∃ m, i2 + 1 = m := ⟨_, rfl⟩
        rw [hi3] at y3
        go_upto_block 4 with fail
        go_cut [5, 8] (fun iv sv wx => ∃ (j : Nat) (sg : Int), iv = .int .i64 (j : Int) ∧ sv = .int .i64 sg ∧ j ≤ s.length ∧ wx = wc)
        case first =>
          by_cases h43 : a2 = 43
          · have r1 : ((a2 : Int) == 43) = true := by simp [h43]
            clear h43
            go_wp2_with fail
            go_meet
            case rel => exact ⟨i3, 1, rfl, rfl, by omega, rfl⟩
          · have r1 : ((a2 : Int) == 43) = false := beq_eq_false_iff_ne.2 (by omega)
            by_cases h45 : a2 = 45
            · have r2 : ((a2 : Int) == 45) = true := by simp [h45]
              clear h43 h45
              go_wp2_with fail
              go_meet
              case rel => exact ⟨i3, -1, rfl, rfl, by omega, rfl⟩
            · have r2 : ((a2 : Int) == 45) = false := beq_eq_false_iff_ne.2 (by omega)
              go_wp2_with fail
              go_meet
              case rel => exact ⟨i2, 1, rfl, rfl, by omega, rfl⟩
        case rest =>
        as_aux_lemma =>
        obtain ⟨j, sg, rfl, rfl, hj, rfl⟩ := hcut
        clear y1 y3 hi3 hix2 q2 q3
        by_cases hjl : j < s.length
        · have q3 : decide ((s.length : Int) ≤ (j : Int)) = false := by simp; omega
          have hix3 := fun (ww : World) => run_index_list (P := Tryz.prog) 9 s (j : Int) j _ Tryz.underlying9 rfl hjl rfl ww
          obtain ⟨a3, ha3⟩ : ∃ b, (s.getD j 0).toNat = b := ⟨_, rfl⟩
          rw [ha3] at hix3
          clear ha3
          by_cases hlo : a3 < 48
          · have r1 : decide ((a3 : Int) < 48) = true := by simp; omega
            go_wp2_with fail
            go_ret
            exact ⟨IsBool.mk _, SetPost.mk hD5 hN hG5⟩
          · have r1 : decide ((a3 : Int) < 48) = false := by simp; omega
            by_cases hhi : 57 < a3
            · have r2 : decide ((57 : Int) < (a3 : Int)) = true := by simp; omega
              go_wp2_with fail
              go_ret
              exact ⟨IsBool.mk _, SetPost.mk hD5 hN hG5⟩
            · have r2 : decide ((57 : Int) < (a3 : Int)) = false := by simp; omega
              go_upto_block 5 with fail
              go_cut [5, 9] (fun iv ev wx => ∃ (j : Nat) (ee : Int), iv = .int .i64 (j : Int) ∧ ev = .int .i64 ee ∧ j ≤ s.length ∧ wx = wc)
              case first =>
                as_aux_lemma =>
                clear hix3 r1 r2 q3
                go_wp2_with fail
                go_loopw [5, 9] (fun iv ev wr => ∃ (j : Nat) (ee : Int), iv = .int .i64 (j : Int) ∧ ev = .int .i64 ee ∧ j ≤ s.length ∧ wr = wc) (fun iv _ _ => s.length - (intOf iv).toNat)
                case atStart => exact ⟨j, 0, rfl, rfl, hj, rfl⟩
                case round =>
                  obtain ⟨j4, ee, rfl, rfl, hj4, rfl⟩ := hrel
                  by_cases hl4 : j4 < s.length
                  · have t1 : decide ((j4 : Int) < (s.length : Int)) = true := by simp; omega
                    have hix4 := fun (ww : World) => run_index_list (P := Tryz.prog) 9 s (j4 : Int) j4 _ Tryz.underlying9 rfl hl4 rfl ww
                    obtain ⟨a4, ha4⟩ : ∃ b, (s.getD j4 0).toNat = b := ⟨_, rfl⟩
                    rw [ha4] at hix4
                    clear ha4
                    have y4 : IntKind.i64.wrap ((j4 : Int) + 1) = ((j4 + 1 : Nat) : Int) := by rw [IntKind.wrap_i64]; omega
                    by_cases h95 : a4 = 95
                    · have t2 : ((a4 : Int) == 95) = true := by simp [h95]
                      have t3 : decide ((48 : Int) ≤ (a4 : Int)) = true := by simp; omega
                      have t4 : decide ((a4 : Int) ≤ 57) = false := by simp; omega
                      clear h95
                      go_wp2_with fail
                      exact ⟨⟨j4 + 1, ee, by go_num, rfl, by omega, trivial⟩, by simp [intOf]; omega⟩
                    · have t2 : ((a4 : Int) == 95) = false := beq_eq_false_iff_ne.2 (by omega)
                      by_cases hlo4 : 48 ≤ a4
                      · have t3 : decide ((48 : Int) ≤ (a4 : Int)) = true := by simp; omega
                        by_cases hhi4 : a4 ≤ 57
                        · have t4 : decide ((a4 : Int) ≤ 57) = true := by simp; omega
                          by_cases he : ee < 10000
                          · have t5 : decide (ee < 10000) = true := by simp; omega
                            go_wp2_with fail
                            exact ⟨⟨j4 + 1, _, by go_num, rfl, by omega, trivial⟩, by simp [intOf]; omega⟩
                          · have t5 : decide (ee < 10000) = false := by simp; omega
                            go_wp2_with fail
                            exact ⟨⟨j4 + 1, ee, by go_num, rfl, by omega, trivial⟩, by simp [intOf]; omega⟩
                        · have t4 : decide ((a4 : Int) ≤ 57) = false := by simp; omega
                          go_wp2_with fail
                          go_meet
                          case rel => exact ⟨j4, ee, rfl, rfl, hj4, rfl⟩
                      · have t3 : decide ((48 : Int) ≤ (a4 : Int)) = false := by simp; omega
                        go_wp2_with fail
                        go_meet
                        case rel => exact ⟨j4, ee, rfl, rfl, hj4, rfl⟩
                  · have t1 : decide ((j4 : Int) < (s.length : Int)) = false := by simp; omega
                    go_wp2_with fail
                    go_meet
                    case rel => exact ⟨j4, ee, rfl, rfl, hj4, rfl⟩
              case rest =>
              as_aux_lemma =>
              obtain ⟨j5, ee, rfl, rfl, hj5, rfl⟩ := hcut
              have b1 := hD5.cP
              have e1 := hD5.unfrozen 801
              obtain ⟨z1, hz1⟩ : ∃ z, IntKind.i64.wrap (ee * sg) = z := ⟨_, rfl⟩
              obtain ⟨z2, hz2⟩ : ∃ z, IntKind.i64.wrap (d + z1) = z := ⟨_, rfl⟩
              have hD6 := hD5.putDp z2
              have hG6 := grownBy_tr hG5 (grown_put _ g 801 (.int .i64 z2))
              by_cases hend : j5 = s.length
              · have q5 : ((j5 : Int) == (s.length : Int)) = true := by simp; omega
                have q6 : ((j5 : Int) != (s.length : Int)) = false := by simp; omega
                clear hend
                go_wp2_with fail
                go_ret
                exact ⟨IsBool.mk _, SetPost.mk hD6 hN hG6⟩
              · have q5 : ((j5 : Int) == (s.length : Int)) = false := beq_eq_false_iff_ne.2 (by omega)
                have q6 : ((j5 : Int) != (s.length : Int)) = true := by simp; omega
                go_wp2_with fail
                go_ret
                exact ⟨IsBool.mk _, SetPost.mk hD6 hN hG6⟩
        · have q3 : decide ((s.length : Int) ≤ (j : Int)) = true := by simp; omega
          go_wp2_with fail
          go_ret
          exact ⟨IsBool.mk _, SetPost.mk hD5 hN hG5⟩
      · have q3 : decide ((s.length : Int) ≤ (i2 : Int)) = true := by simp; omega
        clear hx hi2
        go_wp2_with fail
        go_ret
        exact ⟨IsBool.mk _, SetPost.mk hD5 hN hG5⟩
    · have q2 : (x == 101) = false := beq_eq_false_iff_ne.2 hx
      have q5 : ((i : Int) == (s.length : Int)) = false := beq_eq_false_iff_ne.2 (by omega)
      have q6 : ((i : Int) != (s.length : Int)) = true := by simp; omega
      clear hx
      go_wp2_with fail
      go_ret
      exact ⟨IsBool.mk _, SetPost.mk hD5 hN hG5⟩
  · have q1 : decide ((i : Int) < (s.length : Int)) = false := by simp; omega
    have q5 : ((i : Int) == (s.length : Int)) = true := by simp; omega
    have q6 : ((i : Int) != (s.length : Int)) = false := by simp; omega
    go_wp2_with fail
    go_ret
    exact ⟨IsBool.mk _, SetPost.mk hD5 hN hG5⟩
end Go.Proofs.YtkaeaiagmihmgaaGreatDoor
