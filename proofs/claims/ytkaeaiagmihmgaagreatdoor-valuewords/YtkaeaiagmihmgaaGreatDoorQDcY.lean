/- The slow decimal road: floatBits, walked. -/
import Derived.Test.YtkaeaiagmihmgaaGreatDoorQDcX
namespace Go.Proofs.YtkaeaiagmihmgaaGreatDoor
open Go.RowKit

/-- The table of shifts. -/
def pows : List Nat := [1, 3, 6, 9, 13, 16, 19, 23, 26]
structure Pows (w : World) (B blk po : Nat) : Prop where
  lt : blk < B
  glt : 15 < B
  head : w.cell? ⟨15, 0, none⟩ = some (.slice (some ⟨blk, po, none⟩) 9 9)
  at_ : ∀ i, i < 9 → w.cell? ⟨blk, po + i, none⟩ = some (.int .i64 ((pows.getD i 0 : Nat) : Int))
theorem Pows.keep {w w' : World} {B blk po : Nat} (h : Pows w B blk po) (k : ∀ p : Addr, p.block < B → w'.cell? p = w.cell? p) : Pows w' B blk po :=
  ⟨h.lt, h.glt, (k _ h.glt).trans h.head, fun i hi => (k ⟨blk, po + i, none⟩ h.lt).trans (h.at_ i hi)⟩
theorem pows_ge {i : Nat} (h1 : 1 ≤ i) (h : i < 9) : 3 ≤ pows.getD i 0 ∧ pows.getD i 0 ≤ 27 := by
  have : i = 1 ∨ i = 2 ∨ i = 3 ∨ i = 4 ∨ i = 5 ∨ i = 6 ∨ i = 7 ∨ i = 8 := by omega
  rcases this with rfl | rfl | rfl | rfl | rfl | rfl | rfl | rfl <;> decide
theorem pows_all {i : Nat} (h : i < 9) : 1 ≤ pows.getD i 0 ∧ pows.getD i 0 ≤ 27 := by
  rcases Nat.eq_zero_or_pos i with rfl | h1
  · decide
  · have := pows_ge h1 h; omega
/-- What the road reads of the library's variables, below B. -/
structure Road (w : World) (B blk po fb : Nat) : Prop where
  cheats : Cheats w B
  pows : Pows w B blk po
  shape : Shape w fb
  fb : fb < B
theorem Road.grown {w w' : World} {B blk po fb g : Nat} (h : Road w B blk po fb) (hg : w.grownBy w' (some g)) (hB : B ≤ g) (hw : g < w.heap.size) : Road w' B blk po fb :=
  ⟨h.cheats.grown hg hB hw, h.pows.keep fun p hp => hg.cell_far p (by omega) (by simp; omega), h.shape.keep (hg.block fb (by have := h.fb; omega) (by have := h.fb; simp; omega)), h.fb⟩

/-- How far the first loop has to go. -/
def far1 (d : Int) (F : Nat → Nat) : Nat := 2 * d.toNat + (if 56 ≤ F 0 then 1 else 0)
theorem far1_falls {d : Int} {F F' : Nat → Nat} {r n : Nat} (hd : 0 < d) (h3 : 3 ≤ n) (hF : F 0 ≤ 57) (h : r = 0 → 2 ^ n ≤ F 0 - 48 ∧ F' 0 - 48 = (F 0 - 48) / 2 ^ n) : far1 (d - r) F' < far1 d F := by
  unfold far1
  rcases Nat.eq_zero_or_pos r with h0 | h0
  · obtain ⟨h1, h2⟩ := h h0
    have h8 : 2 ^ 3 ≤ 2 ^ n := Nat.pow_le_pow_right (by omega) h3
    have hlt : (F 0 - 48) / 2 ^ n < 2 := (Nat.div_lt_iff_lt_mul (Nat.pow_pos (by omega))).2 (by omega)
    rw [← h2] at hlt
    generalize 2 ^ n = p at h1 h8
    generalize F 0 = x at *
    generalize F' 0 = y at *
    clear h2 h
    have e1 : 56 ≤ x := by omega
    have e2 : ¬ 56 ≤ y := by omega
    rw [if_pos e1, if_neg e2]
    subst h0
    simp
  · have : (d - (r : Int)).toNat + 1 ≤ d.toNat := by omega
    split <;> split <;> omega
/-- How far the second loop has to go. -/
def far2 (d : Int) (F : Nat → Nat) : Nat := 10 * (-d).toNat + (58 - F 0)
theorem far2_falls {d : Int} {F F' : Nat → Nat} {del : Nat} (hd : d < 0 ∨ (d = 0 ∧ F 0 < 53)) (hF : 49 ≤ F 0 ∧ F 0 ≤ 57) (hF' : 49 ≤ F' 0 ∧ F' 0 ≤ 57) (h : del = 0 → 2 * (F 0 - 48) ≤ F' 0 - 48) : far2 (d + del) F' < far2 d F ∨ (d = 0 ∧ 0 < del) := by
  unfold far2
  rcases Nat.eq_zero_or_pos del with h0 | h0
  · have := h h0
    subst h0
    left
    simp
    omega
  · by_cases h1 : d = 0
    · exact .inr ⟨h1, h0⟩
    · left
      omega

/-- The second loop's state, at most gk rounds to come. -/
structure R5 (M gk : Nat) (ex d : Int) (F : Nat → Nat) : Prop where
  left : far2 d F + 1 ≤ gk ∨ (1 ≤ gk ∧ 0 < d)
  ex_le : ex ≤ 20000
  ex_ge : 27 * (gk : Int) - 27 * (M : Int) ≤ ex
  d_ge : -1000 ≤ d
  d_le : d ≤ 20
theorem R5.gk {M gk : Nat} {ex d : Int} {F : Nat → Nat} (h : R5 M gk ex d F) : 1 ≤ gk := by rcases h.left with e | e <;> omega
theorem step2 {M gk : Nat} {ex d : Int} {F F' : Nat → Nat} {del : Nat} (N : Nat) (h1 : 1 ≤ N) (h27 : N ≤ 27) (hgo : d < 0 ∨ (d = 0 ∧ F 0 < 53)) (h : R5 M gk ex d F) (hF : 49 ≤ F 0) (hF9 : F 0 ≤ 57) (hG : 49 ≤ F' 0) (hG9 : F' 0 ≤ 57) (hd : del ≤ 20) (h0 : del = 0 → 2 * (F 0 - 48) ≤ F' 0 - 48) :
    R5 M (gk - 1) (ex - (N : Int)) (d + del) F' := by
  have hl : far2 d F + 1 ≤ gk := by rcases h.left with e | e; exact e; omega
  have hf2 : 1 ≤ far2 d F := by unfold far2; omega
  have a1 := h.ex_le
  have a2 := h.ex_ge
  have a3 := h.d_ge
  have a4 := h.d_le
  refine ⟨?_, by omega, by omega, by omega, by omega⟩
  rcases far2_falls (del := del) hgo ⟨hF, hF9⟩ ⟨hG, hG9⟩ h0 with e | ⟨e1, e2⟩
  · exact .inl (by omega)
  · exact .inr ⟨by omega, by omega⟩

theorem wp_skip_seq {P : Program} {Q : Exit → Act → World → Prop} {c : Code} {a : Act} {w : World} (h : c.wp P Q a w) : (Code.seq .skip c).wp P Q a w := by
  go_wp2_with fail
  exact h

set_option maxRecDepth 1000000 in
set_option maxHeartbeats 3200000 in
theorem floatBits_any (w : World) (B blk po g fb : Nat) (hB : B ≤ g) (hRd : Road w B blk po fb) (F : Nat → Nat) (nd : Nat) (dp : Int) (neg trunc : Bool) (hDec : Dec w g F nd dp neg trunc) (hN : nd = 0 ∨ Num F nd) :
    Calls Tryz.prog 134 #[.pointer (some ⟨g, 0, none⟩), .pointer (some ⟨fb, 0, none⟩)] w fun e w' => IsBits e ∧ w.grownBy w' (some g) := by
  have c0 := hDec.cN
  have c1 := hDec.cP
  have s2 := hRd.shape.bias
  have hlt := hDec.lt
  have hEnd : ∀ (W : World), w.grownBy W (some g) → ∀ (t : Array Value) (n : Nat) (v : Value), (results Tryz.f134 t).run Tryz.prog (W.drewN n) = .ok v (W.drewN n) → IsBits (.returned v) → bodyPost Tryz.prog Tryz.f134 (fun e w' => IsBits e ∧ w.grownBy w' (some g)) .ret ⟨t, []⟩ (W.drewN n) :=
    fun W hG t n v h1 h2 => bodyPost_ret (P := Tryz.prog) (fn := Tryz.f134) (R := fun e w' => IsBits e ∧ w.grownBy w' (some g)) (a := ⟨t, []⟩) h1 rfl ⟨h2, grownBy_tr hG (grown_drew W n _)⟩
  have HE := Lib.hid hEnd
  clear hEnd
  rcases hN with h0 | hN
  · subst h0
    go_enter Tryz.func134, Tryz.ntmps134
    go_wp2_with fail
    refine wp_scope_two 1 0 fb_over fb_out ?_
    go_wp2_with fail
    go_step3
    refine .inr ⟨rfl, wp_skip_seq ?_⟩
    refine out_any g fb false (-1023) (by omega) 0 F _ dp neg trunc w hDec hRd.shape _ ?_
    intro t n v h1 h2
    exact HE.out w (World.grownBy.refl w _) t n v h1 h2
  have hpos := hN.pos
  have q0 : ((nd : Int) == 0) = false := beq_eq_false_iff_ne.2 (by omega)
  by_cases h1 : 310 < dp
  · have q1 : decide ((310 : Int) < dp) = true := by simp; omega
    go_enter Tryz.func134, Tryz.ntmps134
    go_wp2_with fail
    refine wp_scope_two 1 0 fb_over fb_out ?_
    go_wp2_with fail
    go_step3
    refine .inl ⟨rfl, wp_skip_seq ?_⟩
    refine over_any g fb F _ dp neg trunc w hDec hRd.shape _ ?_
    intro t n v h1 h2
    exact HE.out w (World.grownBy.refl w _) t n v h1 h2
  by_cases h2 : dp < -330
  · have q1 : decide ((310 : Int) < dp) = false := by simp; omega
    have q2 : decide (dp < -330) = true := by simp; omega
    go_enter Tryz.func134, Tryz.ntmps134
    go_wp2_with fail
    refine wp_scope_two 1 0 fb_over fb_out ?_
    go_wp2_with fail
    go_step3
    refine .inr ⟨rfl, wp_skip_seq ?_⟩
    refine out_any g fb false (-1023) (by omega) 0 F _ dp neg trunc w hDec hRd.shape _ ?_
    intro t n v h1 h2
    exact HE.out w (World.grownBy.refl w _) t n v h1 h2
  have q1 : decide ((310 : Int) < dp) = false := by simp; omega
  have q2 : decide (dp < -330) = false := by simp; omega
  go_enter Tryz.func134, Tryz.ntmps134
  go_wp2_with fail
  refine wp_scope_two 1 0 fb_over fb_out ?_
  go_upto_block 0 with fail
  go_cut [6] (fun ev wx => ∃ (ex : Int) (F' : Nat → Nat) (n : Nat) (d : Int) (tr : Bool), ev = .int .i64 ex ∧ Hid (0 ≤ ex ∧ ex ≤ 20000) ∧ Hid (-1000 ≤ d ∧ d ≤ 0) ∧ Num F' n ∧ Dec wx g F' n d neg tr ∧ w.grownBy wx (some g))
  case first =>
    go_wp2_with fail
    go_loopg [6] (far1 dp F) (fun gk ev wr => ∃ (ex : Int) (F' : Nat → Nat) (n : Nat) (d : Int) (tr : Bool), ev = .int .i64 ex ∧ Hid (far1 d F' ≤ gk ∧ 0 ≤ ex ∧ ex + 27 * (gk : Int) ≤ 27 * (far1 dp F : Int) ∧ -1000 ≤ d - 20 ∧ d ≤ 310) ∧ Num F' n ∧ Dec wr g F' n d neg tr ∧ w.grownBy wr (some g))
    case atStart => exact ⟨0, F, nd, dp, trunc, rfl, Lib.hid ⟨Nat.le_refl _, by omega, by omega, by omega, by omega⟩, hN, hDec, World.grownBy.refl w _⟩
    case round =>
      obtain ⟨ex, F', n, d, tr, rfl, hI, hN2, hD, hG⟩ := hrel
      have hfar : far1 dp F ≤ 621 := by unfold far1; split <;> omega
      have hex : 0 ≤ ex ∧ ex ≤ 20000 := by have := hI.out; omega
      have d1 := hD.cP
      have hRd2 := hRd.grown hG hB hlt
      have p0 := hRd2.pows.head
      by_cases hd : 0 < d
      · have r0 : decide ((0 : Int) < d) = true := by simp; omega
        obtain ⟨dn, rfl⟩ : ∃ m : Nat, d = (m : Int) := ⟨d.toNat, by omega⟩
        have hdn : dn ≤ 310 := by have := hI.out; omega
        by_cases h9 : 9 ≤ dn
        · have r1 : decide ((9 : Int) ≤ (dn : Int)) = true := by simp; omega
          go_wp2_with fail
          go_quiet (fail)
          have hD3 : Dec (wr.drewN nq) g F' n (dn : Int) neg tr := hD.keep rfl
          have hG3 := grownBy_tr hG (grown_drew wr nq (some g))
          clear d1 p0 hD hG
          generalize wr.drewN nq = w3 at hD3 hG3 ⊢
          obtain ⟨N, hNe⟩ : ∃ N : Nat, N = 27 := ⟨27, rfl⟩
          have hN3 : 3 ≤ N := by omega
          have hmN : IntKind.i64.wrap (-27) = -27 := by decide
          have HSH := Lib.hid (shift_right w3 g F' n (dn : Int) neg tr hD3 hN2 27 (by omega) (by omega) (by omega) (-27) rfl)
          have we : IntKind.i64.wrap (ex + 27) = ex + 27 := by rw [IntKind.wrap_i64]; omega
          go_wp2_with fail
          refine HSH.out.mono ?_
          rintro e w5 ⟨rfl, F2, n2, r, tr2, hD5, hN5, hr, hr0, hG5⟩
          have hG6 := grownBy_tr hG3 hG5
          have hfall := far1_falls (d := (dn : Int)) (F := F') (F' := F2) (r := r) (n := 27) (by omega) (by omega) (hN2.dig 0 hN2.pos).2 hr0
          have HI2 := Lib.hid (show far1 ((dn : Int) - r) F2 ≤ gk - 1 ∧ 0 ≤ ex + 27 ∧ (ex + 27) + 27 * ((gk - 1 : Nat) : Int) ≤ 27 * (far1 dp F : Int) ∧ -1000 ≤ (dn : Int) - r - 20 ∧ (dn : Int) - r ≤ 310 from by have := hI.out; omega)
          have hgk : 1 ≤ gk := by have := hI.out.1; omega
          clear hfall hr0
          go_wp2_with fail
          go_roundg (gk - 1)
          case measure => omega
          case rel => exact ⟨ex + 27, F2, n2, (dn : Int) - r, tr2, rfl, HI2, hN5, hD5, hG6⟩
        · have r1 : decide ((9 : Int) ≤ (dn : Int)) = false := by simp; omega
          have r1' : (dn : Int) < 9 := by omega
          obtain ⟨hN3, hN27⟩ := pows_ge (i := dn) (by omega) (by omega)
          have hpc := hRd2.pows.at_ dn (by omega)
          obtain ⟨N, hNe⟩ : ∃ N, pows.getD dn 0 = N := ⟨_, rfl⟩
          rw [hNe] at hN3 hN27 hpc
          clear hNe
          go_wp2_with fail
          go_quiet (fail)
          have hD3 : Dec (wr.drewN nq) g F' n (dn : Int) neg tr := hD.keep rfl
          have hG3 := grownBy_tr hG (grown_drew wr nq (some g))
          have d3 := hD3.cP
          have p3 : (wr.drewN nq).cell? ⟨15, 0, none⟩ = some (.slice (some ⟨blk, po, none⟩) 9 9) := p0
          have pc3 : (wr.drewN nq).cell? ⟨blk, po + dn, none⟩ = some (.int .i64 (N : Int)) := hpc
          clear d1 p0 hD hG hpc
          generalize wr.drewN nq = w3 at hD3 hG3 d3 p3 pc3 ⊢
          go_wp2_with fail
          go_quiet (fail)
          have hD4 : Dec (w3.drewN nq) g F' n (dn : Int) neg tr := hD3.keep rfl
          have hG4 := grownBy_tr hG3 (grown_drew w3 nq (some g))
          clear d3 p3 pc3 hD3 hG3
          generalize w3.drewN nq = w4 at hD4 hG4 ⊢
          have hmN : IntKind.i64.wrap (-(N : Int)) = -(N : Int) := by rw [IntKind.wrap_i64]; omega
          have we : IntKind.i64.wrap (ex + (N : Int)) = ex + (N : Int) := by rw [IntKind.wrap_i64]; omega
          have HSH := Lib.hid (shift_right w4 g F' n (dn : Int) neg tr hD4 hN2 N (by omega) (by omega) (by omega) (-(N : Int)) rfl)
          go_wp2_with fail
          refine HSH.out.mono ?_
          rintro e w5 ⟨rfl, F2, n2, r, tr2, hD5, hN5, hr, hr0, hG5⟩
          have hG6 := grownBy_tr hG4 hG5
          have hfall := far1_falls (d := (dn : Int)) (F := F') (F' := F2) (r := r) (n := N) (by omega) hN3 (hN2.dig 0 hN2.pos).2 hr0
          have HI2 := Lib.hid (show far1 ((dn : Int) - r) F2 ≤ gk - 1 ∧ 0 ≤ ex + (N : Int) ∧ (ex + (N : Int)) + 27 * ((gk - 1 : Nat) : Int) ≤ 27 * (far1 dp F : Int) ∧ -1000 ≤ (dn : Int) - r - 20 ∧ (dn : Int) - r ≤ 310 from by have := hI.out; omega)
          have hgk : 1 ≤ gk := by have := hI.out.1; omega
          clear hfall hr0
          go_wp2_with fail
          go_roundg (gk - 1)
          case measure => omega
          case rel => exact ⟨ex + (N : Int), F2, n2, (dn : Int) - r, tr2, rfl, HI2, hN5, hD5, hG6⟩
      · have r0 : decide ((0 : Int) < d) = false := by simp; omega
        have hE : 27 * (far1 dp F : Int) ≤ 20000 := by
          have : far1 dp F ≤ 621 := by unfold far1; split <;> omega
          omega
        have HX := Lib.hid (show 0 ≤ ex ∧ ex ≤ 20000 from by have := hI.out; omega)
        have HY := Lib.hid (show -1000 ≤ d ∧ d ≤ 0 from by have := hI.out; omega)
        go_wp2_with fail
        go_meet
        case rel => exact ⟨ex, F', n, d, tr, rfl, HX, HY, hN2, hD, hG⟩
  case rest =>
  obtain ⟨ex1, F1, n1, d1, tr1, rfl, hX1, hY1, hN1, hD1, hG1⟩ := hcut
  go_upto_block 2 with fail
  go_cut [6] (fun ev wx => ∃ (ex : Int) (F' : Nat → Nat) (n : Nat) (d : Int) (tr : Bool), ev = .int .i64 ex ∧ Hid (-400000 ≤ ex ∧ ex ≤ 20000) ∧ Hid (-1000 ≤ d ∧ d ≤ 1000) ∧ Num F' n ∧ Dec wx g F' n d neg tr ∧ w.grownBy wx (some g))
  case first =>
    go_wp2_with fail
    have hF1 := hN1.dig 0 hN1.pos
    go_loopg [6] (far2 d1 F1 + 1) (fun gk ev wr => ∃ (ex : Int) (F' : Nat → Nat) (n : Nat) (d : Int) (tr : Bool), ev = .int .i64 ex ∧ Hid (R5 (far2 d1 F1 + 1) gk ex d F') ∧ Num F' n ∧ Dec wr g F' n d neg tr ∧ w.grownBy wr (some g))
    case atStart => exact ⟨ex1, F1, n1, d1, tr1, rfl, Lib.hid ⟨.inl (Nat.le_refl _), by have := hX1.out; omega, by have := hX1.out; omega, by have := hY1.out; omega, by have := hY1.out; omega⟩, hN1, hD1, hG1⟩
    case round =>
      obtain ⟨ex, F', n, d, tr, rfl, hI, hN2, hD, hG⟩ := hrel
      have e1 := hD.cP
      have e2 := hD.cell (i := 0) (by omega)
      have hF := hN2.dig 0 hN2.pos
      have hF9 := hN2.first
      have hRd2 := hRd.grown hG hB hlt
      have p0 := hRd2.pows.head
      have hfar : far2 d1 F1 ≤ 10010 := by unfold far2; have := hY1.out; omega
      have hex : -400000 ≤ ex ∧ ex ≤ 20000 := by have := hI.out.ex_le; have := hI.out.ex_ge; omega
      have hdb : -1000 ≤ d ∧ d ≤ 20 := ⟨hI.out.d_ge, hI.out.d_le⟩
      by_cases hgo : d < 0 ∨ (d = 0 ∧ F' 0 < 53)
      · obtain ⟨dn, hdn⟩ : ∃ m : Nat, -d = (m : Int) := ⟨(-d).toNat, by omega⟩
        have hneg : IntKind.i64.wrap (-d) = (dn : Int) := by rw [IntKind.wrap_i64]; omega
        have hdn1 : dn ≤ 1000 := by omega
        by_cases hd0 : d < 0
        · have r0 : decide (d < 0) = true := by simp; omega
          by_cases h9 : 9 ≤ dn
          · have r3 : decide ((9 : Int) ≤ (dn : Int)) = true := by simp; omega
            clear hdn
            go_wp2_with fail
            go_quiet (fail)
            have hD3 : Dec (wr.drewN nq) g F' n d neg tr := hD.keep rfl
            have hG3 := grownBy_tr hG (grown_drew wr nq (some g))
            have hC3 : Cheats (wr.drewN nq) B := hRd2.cheats.keep fun _ _ => rfl
            clear e1 e2 p0 hD hG
            generalize wr.drewN nq = w3 at hD3 hG3 hC3 ⊢
            have HSH := Lib.hid (shift_left w3 B g hC3 F' n d neg tr hD3 hN2 27 (by omega) (by omega) (by omega))
            have we : IntKind.i64.wrap (ex - 27) = ex - 27 := by rw [IntKind.wrap_i64]; omega
            go_wp2_with fail
            refine HSH.out.mono ?_
            rintro e w5 ⟨rfl, F2, n2, del, tr2, hD5, hN5, hdl, hdl0, hG5⟩
            have hG6 := grownBy_tr hG3 hG5
            have HI2 := Lib.hid (step2 27 (by omega) (by omega) hgo hI.out hF9 hF.2 hN5.first (hN5.dig 0 hN5.pos).2 hdl hdl0)
            have hgk := hI.out.gk
            clear hdl0
            go_wp2_with fail
            go_roundg (gk - 1)
            case measure => omega
            case rel => exact ⟨ex - 27, F2, n2, d + del, tr2, rfl, HI2, hN5, hD5, hG6⟩
          · have r3 : decide ((9 : Int) ≤ (dn : Int)) = false := by simp; omega
            have r3' : (dn : Int) < 9 := by omega
            clear hdn
            obtain ⟨hN3, hN27⟩ := pows_all (i := dn) (by omega)
            have hpc := hRd2.pows.at_ dn (by omega)
            obtain ⟨N, hNe⟩ : ∃ N, pows.getD dn 0 = N := ⟨_, rfl⟩
            rw [hNe] at hN3 hN27 hpc
            clear hNe
            go_wp2_with fail
            go_quiet (fail)
            have hD3 : Dec (wr.drewN nq) g F' n d neg tr := hD.keep rfl
            have hG3 := grownBy_tr hG (grown_drew wr nq (some g))
            have hC3 : Cheats (wr.drewN nq) B := hRd2.cheats.keep fun _ _ => rfl
            have d3 := hD3.cP
            have p3 : (wr.drewN nq).cell? ⟨15, 0, none⟩ = some (.slice (some ⟨blk, po, none⟩) 9 9) := p0
            have pc3 : (wr.drewN nq).cell? ⟨blk, po + dn, none⟩ = some (.int .i64 (N : Int)) := hpc
            clear e1 e2 p0 hD hG hpc
            generalize wr.drewN nq = w3 at hD3 hG3 hC3 d3 p3 pc3 ⊢
            go_wp2_with fail
            go_quiet (fail)
            have hD4 : Dec (w3.drewN nq) g F' n d neg tr := hD3.keep rfl
            have hG4 := grownBy_tr hG3 (grown_drew w3 nq (some g))
            have hC4 : Cheats (w3.drewN nq) B := hC3.keep fun _ _ => rfl
            clear d3 p3 pc3 hD3 hG3 hC3
            generalize w3.drewN nq = w4 at hD4 hG4 hC4 ⊢
            have HSH := Lib.hid (shift_left w4 B g hC4 F' n d neg tr hD4 hN2 N (by omega) (by omega) (by omega))
            have we : IntKind.i64.wrap (ex - (N : Int)) = ex - (N : Int) := by rw [IntKind.wrap_i64]; omega
            go_wp2_with fail
            refine HSH.out.mono ?_
            rintro e w5 ⟨rfl, F2, n2, del, tr2, hD5, hN5, hdl, hdl0, hG5⟩
            have hG6 := grownBy_tr hG4 hG5
            have HI2 := Lib.hid (step2 N (by omega) (by omega) hgo hI.out hF9 hF.2 hN5.first (hN5.dig 0 hN5.pos).2 hdl hdl0)
            have hgk := hI.out.gk
            clear hdl0
            go_wp2_with fail
            go_roundg (gk - 1)
            case measure => omega
            case rel => exact ⟨ex - (N : Int), F2, n2, d + del, tr2, rfl, HI2, hN5, hD5, hG6⟩
        · have r0 : decide (d < 0) = false := by simp; omega
          have hdd : d = 0 := by omega
          have r1 : (d == 0) = true := by simp [hdd]
          have r2 : decide ((F' 0 : Int) < 53) = true := by simp; omega
          have hdn0 : dn < 9 := by omega
          have r3 : decide ((9 : Int) ≤ (dn : Int)) = false := by simp; omega
          have r3' : (dn : Int) < 9 := by omega
          clear hdn hdd
          obtain ⟨hN3, hN27⟩ := pows_all (i := dn) (by omega)
          have hpc := hRd2.pows.at_ dn (by omega)
          obtain ⟨N, hNe⟩ : ∃ N, pows.getD dn 0 = N := ⟨_, rfl⟩
          rw [hNe] at hN3 hN27 hpc
          clear hNe
          go_wp2_with fail
          go_quiet (fail)
          have hD3 : Dec (wr.drewN nq) g F' n d neg tr := hD.keep rfl
          have hG3 := grownBy_tr hG (grown_drew wr nq (some g))
          have hC3 : Cheats (wr.drewN nq) B := hRd2.cheats.keep fun _ _ => rfl
          have d3 := hD3.cP
          have p3 : (wr.drewN nq).cell? ⟨15, 0, none⟩ = some (.slice (some ⟨blk, po, none⟩) 9 9) := p0
          have pc3 : (wr.drewN nq).cell? ⟨blk, po + dn, none⟩ = some (.int .i64 (N : Int)) := hpc
          clear e1 e2 p0 hD hG hpc
          generalize wr.drewN nq = w3 at hD3 hG3 hC3 d3 p3 pc3 ⊢
          go_wp2_with fail
          go_quiet (fail)
          have hD4 : Dec (w3.drewN nq) g F' n d neg tr := hD3.keep rfl
          have hG4 := grownBy_tr hG3 (grown_drew w3 nq (some g))
          have hC4 : Cheats (w3.drewN nq) B := hC3.keep fun _ _ => rfl
          clear d3 p3 pc3 hD3 hG3 hC3
          generalize w3.drewN nq = w4 at hD4 hG4 hC4 ⊢
          have HSH := Lib.hid (shift_left w4 B g hC4 F' n d neg tr hD4 hN2 N (by omega) (by omega) (by omega))
          have we : IntKind.i64.wrap (ex - (N : Int)) = ex - (N : Int) := by rw [IntKind.wrap_i64]; omega
          go_wp2_with fail
          refine HSH.out.mono ?_
          rintro e w5 ⟨rfl, F2, n2, del, tr2, hD5, hN5, hdl, hdl0, hG5⟩
          have hG6 := grownBy_tr hG4 hG5
          have HI2 := Lib.hid (step2 N (by omega) (by omega) hgo hI.out hF9 hF.2 hN5.first (hN5.dig 0 hN5.pos).2 hdl hdl0)
          have hgk := hI.out.gk
          clear hdl0
          go_wp2_with fail
          go_roundg (gk - 1)
          case measure => omega
          case rel => exact ⟨ex - (N : Int), F2, n2, d + del, tr2, rfl, HI2, hN5, hD5, hG6⟩
      · have r0 : decide (d < 0) = false := by simp; omega
        have HX := Lib.hid hex
        have HY := Lib.hid (show -1000 ≤ d ∧ d ≤ 1000 from by omega)
        by_cases hd0 : d = 0
        · have r1 : (d == 0) = true := by simp [hd0]
          have r2 : decide ((F' 0 : Int) < 53) = false := by simp; omega
          clear hd0
          go_wp2_with fail
          go_meet
          case rel => exact ⟨ex, F', n, d, tr, rfl, HX, HY, hN2, hD, hG⟩
        · have r1 : (d == 0) = false := by simp [hd0]
          go_wp2_with fail
          go_meet
          case rel => exact ⟨ex, F', n, d, tr, rfl, HX, HY, hN2, hD, hG⟩
  case rest =>
  obtain ⟨ex2, F2, n2, d2, tr2, rfl, hX2, hY2, hN2, hD2, hG2⟩ := hcut
  have hRd2 := hRd.grown hG2 hB hlt
  have hx2 := hX2.out
  have hy2 := hY2.out
  have u1 : IntKind.i64.wrap (ex2 - 1) = ex2 - 1 := by rw [IntKind.wrap_i64]; omega
  obtain ⟨e3, he3⟩ : ∃ e, ex2 - 1 = e := ⟨_, rfl⟩
  rw [he3] at u1
  have hb := hRd2.shape.bias
  go_upto_if 111 with fail
  go_cut [6] (fun ev wx => ∃ (ex : Int) (F' : Nat → Nat) (n : Nat) (d : Int) (tr : Bool), ev = .int .i64 ex ∧ Hid (-1022 ≤ ex ∧ ex ≤ 20000) ∧ Hid (-10000000 ≤ d ∧ d ≤ 10000000) ∧ Num F' n ∧ Dec wx g F' n d neg tr ∧ w.grownBy wx (some g))
  case first =>
    by_cases h3 : e3 < -1022
    · have q3 : decide (e3 < -1022) = true := by simp; omega
      obtain ⟨N, hN⟩ : ∃ N : Nat, -1022 - e3 = (N : Int) := ⟨(-1022 - e3).toNat, by omega⟩
      have u2 : IntKind.i64.wrap (-1022 - e3) = (N : Int) := by rw [IntKind.wrap_i64]; omega
      have u3 : IntKind.i64.wrap (-(N : Int)) = -(N : Int) := by rw [IntKind.wrap_i64]; omega
      have u4 : IntKind.i64.wrap (e3 + (N : Int)) = -1022 := by rw [IntKind.wrap_i64]; omega
      have HSH := Lib.hid (shift_far wc g F2 n2 d2 neg tr2 hD2 hN2 N (by omega) (by omega) (by omega) (-(N : Int)) rfl)
      clear hN he3
      go_wp2_with fail
      refine HSH.out.mono ?_
      rintro e w5 ⟨rfl, F3, n3, d3, tr3, hD3, hN3, hd3, hG3⟩
      go_wp2_with fail
      go_meet
      case rel => exact ⟨-1022, F3, n3, d3, tr3, rfl, Lib.hid ⟨by omega, by omega⟩, Lib.hid hd3, hN3, hD3, grownBy_tr hG2 hG3⟩
    · have q3 : decide (e3 < -1022) = false := by simp; omega
      have HE3 := Lib.hid (show -1022 ≤ e3 ∧ e3 ≤ 20000 from by omega)
      clear he3
      go_wp2_with fail
      go_meet
      case rel => exact ⟨e3, F2, n2, d2, tr2, rfl, HE3, Lib.hid (by omega), hN2, hD2, hG2⟩
  case rest =>
  obtain ⟨ex3, F3, n3, d3, tr3, rfl, hX3, hY3, hN3, hD3, hG3⟩ := hcut
  clear hb u1 hRd2
  have hRd3 := hRd.grown hG3 hB hlt
  have hx3 := hX3.out
  have hy3 := hY3.out
  have s0 := hRd3.shape.mant
  have s1 := hRd3.shape.exp
  have s2 := hRd3.shape.bias
  have u1 : IntKind.i64.wrap (ex3 + 1023) = ex3 + 1023 := by rw [IntKind.wrap_i64]; omega
  by_cases h4 : 2047 ≤ ex3 + 1023
  · have q4 : decide ((2047 : Int) ≤ ex3 + 1023) = true := by simp; omega
    go_wp2_with fail
    go_quiet (fail)
    have hD4 : Dec (wc.drewN nq) g F3 n3 d3 neg tr3 := hD3.keep rfl
    have hS4 : Shape (wc.drewN nq) fb := hRd3.shape.keep rfl
    have hG4 := grownBy_tr hG3 (grown_drew wc nq (some g))
    generalize wc.drewN nq = w4 at hD4 hS4 hG4 ⊢
    go_wp2_with fail
    go_step3
    refine .inl ⟨rfl, wp_skip_seq ?_⟩
    refine over_any g fb F3 _ d3 neg tr3 w4 hD4 hS4 _ ?_
    intro t n v h1 h2
    exact HE.out w4 hG4 t n v h1 h2
  · have q4 : decide ((2047 : Int) ≤ ex3 + 1023) = false := by simp; omega
    go_wp2_with fail
    go_quiet (fail)
    have hD4 : Dec (wc.drewN nq) g F3 n3 d3 neg tr3 := hD3.keep rfl
    have hG4 := grownBy_tr hG3 (grown_drew wc nq (some g))
    have hRd4 : Road (wc.drewN nq) B blk po fb := hRd.grown hG4 hB hlt
    clear s0 s1 s2
    generalize wc.drewN nq = w4 at hD4 hG4 hRd4 ⊢
    have s0 := hRd4.shape.mant
    have u53 : IntKind.i64.wrap 53 = 53 := by decide
    have HSH := Lib.hid (shift_left w4 B g hRd4.cheats F3 n3 d3 neg tr3 hD4 hN3 53 (by omega) (by omega) (by omega))
    go_wp2_with fail
    refine HSH.out.mono ?_
    rintro e w5 ⟨rfl, F5, n5, del, tr5, hD5, hN5, hdl, _, hG5⟩
    have hG6 := grownBy_tr hG4 hG5
    have hRd5 := hRd.grown hG6 hB hlt
    clear hD4 hG4 hRd4 hG5 s0 HSH
    go_wp2_with fail
    refine (rounded_any w5 g F5 n5 (d3 + del) neg tr5 hD5 hN5).mono ?_
    rintro e w6 ⟨⟨mt, hmt, rfl⟩, rfl⟩
    have s0 := hRd5.shape.mant
    have s1 := hRd5.shape.exp
    have s2 := hRd5.shape.bias
    by_cases h5 : mt = 9007199254740992
    · subst h5
      have v1 : IntKind.i64.wrap (ex3 + 1) = ex3 + 1 := by rw [IntKind.wrap_i64]; omega
      have v2 : IntKind.i64.wrap (ex3 + 1 + 1023) = ex3 + 1 + 1023 := by rw [IntKind.wrap_i64]; omega
      have v3 : bits .and .u64 4503599627370496 4503599627370496 = 4503599627370496 := by kernel_rfl
      by_cases h6 : 2047 ≤ ex3 + 1 + 1023
      · have q6 : decide ((2047 : Int) ≤ ex3 + 1 + 1023) = true := by simp; omega
        go_wp2_with fail
        go_quiet (fail)
        have hD7 : Dec (w5.drewN nq) g F5 n5 (d3 + del) neg tr5 := hD5.keep rfl
        have hS7 : Shape (w5.drewN nq) fb := hRd5.shape.keep rfl
        have hG7 := grownBy_tr hG6 (grown_drew w5 nq (some g))
        clear s0 s1 s2
        generalize w5.drewN nq = w7 at hD7 hS7 hG7 ⊢
        go_wp2_with fail
        go_step3
        refine .inl ⟨rfl, wp_skip_seq ?_⟩
        refine over_any g fb F5 _ _ neg tr5 w7 hD7 hS7 _ ?_
        intro t n v h1 h2
        exact HE.out w7 hG7 t n v h1 h2
      · have q6 : decide ((2047 : Int) ≤ ex3 + 1 + 1023) = false := by simp; omega
        go_wp2_with fail
        go_quiet (fail)
        have hD7 : Dec (w5.drewN nq) g F5 n5 (d3 + del) neg tr5 := hD5.keep rfl
        have hS7 : Shape (w5.drewN nq) fb := hRd5.shape.keep rfl
        have hG7 := grownBy_tr hG6 (grown_drew w5 nq (some g))
        clear s0 s1 s2
        generalize w5.drewN nq = w7 at hD7 hS7 hG7 ⊢
        have s0 := hS7.mant
        have s2 := hS7.bias
        go_wp2_with fail
        go_step3
        refine .inr ⟨rfl, wp_skip_seq ?_⟩
        refine out_any g fb false (ex3 + 1) (by omega) 4503599627370496 F5 _ _ neg tr5 w7 hD7 hS7 _ ?_
        intro t n v h1 h2
        exact HE.out w7 hG7 t n v h1 h2
    · have q5 : ((mt : Int) == 9007199254740992) = false := beq_eq_false_iff_ne.2 (by omega)
      obtain ⟨na, hna, _⟩ := dx_and_u64 (mt : Int) 4503599627370496
      by_cases h7 : na = 0
      · have q7 : ((na : Int) == 0) = true := by simp [h7]
        clear h7
        go_wp2_with fail
        go_step3
        refine .inr ⟨rfl, wp_skip_seq ?_⟩
        refine out_any g fb false (-1023) (by omega) mt F5 _ _ neg tr5 w5 hD5 hRd5.shape _ ?_
        intro t n v h1 h2
        exact HE.out w5 hG6 t n v h1 h2
      · have q7 : ((na : Int) == 0) = false := beq_eq_false_iff_ne.2 (by omega)
        clear h7
        go_wp2_with fail
        go_step3
        refine .inr ⟨rfl, wp_skip_seq ?_⟩
        refine out_any g fb false ex3 (by omega) mt F5 _ _ neg tr5 w5 hD5 hRd5.shape _ ?_
        intro t n v h1 h2
        exact HE.out w5 hG6 t n v h1 h2
end Go.Proofs.YtkaeaiagmihmgaaGreatDoor
