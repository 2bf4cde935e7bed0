/- The walk of the law WalDoes. -/
import Derived.Test.YtmdoicemkddpgaaWalAgain
namespace Go.Proofs.Ytmdoicemkddpgaa
open Go.RowKit

theorem Moved.at_ {w w' : World} {base L b c g : Nat} {v v' : Value} {D : Dk} {t : TypeId} {cs : Array Value} (k : Moved w b L v w' v') (hL : Lg w base L b v D c) (hA : At w g t cs) (h1 : t ≠ 50) (h2 : t ≠ 53) (h3 : t ≠ 5) : At w' g t cs := by
  refine hA.keep (k.block g hA.lt (fun e => ?_) (fun e => ?_) (fun e => ?_))
  · subst e; exact h1 (At.type_eq hA hL.dsk.at_)
  · subst e; exact h2 (At.type_eq hA hL.log)
  · exact hL.dsk.bts.apart hA (fun e => h3 e.symm) e.symm

set_option maxRecDepth 100000 in
set_option maxHeartbeats 1600000 in
theorem walDoes_main (a : Int) (A : Option Addr) (n cap : Nat) (cs : List Cl) (w : World) (_ : I64 a) (hv : Clls w A n cs) (hok : ∀ c ∈ cs, c.Ok) (hn : n ≤ maxLen) :
    Calls Try.prog 3 #[.int .i64 a, .slice A n cap] w fun e w' => e = .returned (.bool true) ∧ Below w.heap.size w w' := by
  cases hg : greatC cs with
  | true =>
    go_enter Try.func3, Try.ntmps3
    go_wp2_with fail
    refine (alive_any _).mono ?_
    rintro e w1 ⟨rfl, b1⟩
    go_wp2_with fail
    refine (great_any A n cap cs w1 (hv.below b1) hok hn).mono ?_
    rintro e w2 ⟨rfl, c2⟩
    rw [hg]
    go_wp2_with fail
    go_ret
    exact ⟨rfl, below_join b1 c2 b1.size⟩
  | false =>
    obtain ⟨hn40, hsml⟩ := small_ofC hg
    rw [hv.1] at hn40
    have HOK := Lib.hid (fun k (hk : k < n) => okC_at hok (k := k) (by rw [hv.1]; exact hk))
    have HSM := Lib.hid (fun k (hk : k < n) => (show (cs.getD k default).s.length ≤ 131072 from by
      have hk' : k < cs.length := by rw [hv.1]; exact hk
      rw [List.getD_eq_getElem?_getD, List.getElem?_eq_getElem hk']
      exact hsml _ (List.getElem_mem hk')))
    have HV := Lib.hid (fun w1 (b1 : Below w.heap.size w w1) => hv.below b1)
    go_enter Try.func3, Try.ntmps3
    go_wp2_with fail
    refine (alive_any _).mono ?_
    rintro e w1 ⟨rfl, b1⟩
    go_wp2_with fail
    refine (great_any A n cap cs w1 (hv.below b1) hok hn).mono ?_
    rintro e w2 ⟨rfl, c2⟩
    rw [hg]
    have b2 := below_join b1 c2 b1.size
    clear c2 hv hok hg b1 hsml
    go_wp2_with fail
    refine (new_any a _).mono ?_
    rintro e w3 ⟨rfl, hD3, hb3, hs3⟩
    have ok3 := dkNew_ok a
    have hx3 : (dkNew a).xs = [] := rfl
    have hd3 : (dkNew a).down = false := rfl
    have hbo3 : (dkNew a).boots = 1 := rfl
    have b3 := below_join b2 hb3 b2.size
    clear hb3
    generalize dkNew a = D3 at *
    go_wp2_with fail
    refine (open_empty hD3 ok3 hx3 hd3 (Nat.le_refl _) (by omega)).mono ?_
    rintro e w4 ⟨A4, c4, L, v4, rfl, hL4, hG4⟩
    have b4 : Below w.heap.size w w4 := b3.trans (hG4.below' hD3 (Nat.le_refl _) b2.size (by omega))
    have hB : w.heap.size ≤ w2.heap.size := b2.size
    have hz4 : w2.heap.size ≤ w4.heap.size := by have := hG4.size; omega
    clear hG4 hD3 b3 hs3 b2
    generalize w2.heap.size = B at *
    go_wp2_with fail
    go_loopw [6, 9, 48] (fun l ct i wr => ∃ (k L : Nat) (v : Value) (D : Dk) (c : Nat), k ≤ n ∧ i = .int .i64 k ∧ l = .pointer (some ⟨L, 0, none⟩) ∧ ct = .int .i64 c ∧ Lg wr B L B v D c ∧ D.down = false ∧ c ≤ 100000 + k ∧ D.boots ≤ 1 + k ∧ Below w.heap.size w wr ∧ B ≤ wr.heap.size) (fun _ _ i _ => n - (intOf i).toNat)
    case atStart => exact ⟨0, L, v4, D3, 0, by omega, rfl, rfl, rfl, hL4, hd3, by omega, by omega, b4, hz4⟩
    case round =>
      clear hL4 b4 hz4 hd3 ok3 hx3 hbo3
      obtain ⟨k, L, v, D, c, hk, rfl, rfl, rfl, hL, hd, hck, hbo, hb, hz⟩ := hrel
      by_cases hlt : k < n
      · obtain ⟨b, off, rfl, hbl, hcell⟩ := (HV.out _ hb).2 (by omega)
        obtain ⟨c0, c1, c2, c3⟩ := hcell k hlt
        have hok1 := HOK.out k hlt
        have hsl := HSM.out k hlt
        clear hcell
        generalize cs.getD k default = x at *
        obtain ⟨kk, ss, nn, tt⟩ := x
        clear hok1
        simp only at c0 c1 c2 c3 hsl
        have hba : Below wr.heap.size wr (wr.alloc (.cells #[.int .i64 kk, .string ⟨ss.toArray⟩, .int .i64 nn, .int .u8 (tt.toNat : Int)] 33)) := (Below.refl _ _).alloc (Nat.le_refl _) _
        have hLa := hL.fresh hba
        have hC := At.fresh wr 33 #[.int .i64 kk, .string ⟨ss.toArray⟩, .int .i64 nn, .int .u8 (tt.toNat : Int)]
        have bA : Below w.heap.size w (wr.alloc (.cells #[.int .i64 kk, .string ⟨ss.toArray⟩, .int .i64 nn, .int .u8 (tt.toNat : Int)] 33)) := below_join hb hba hb.size
        have zA : B ≤ (wr.alloc (.cells #[.int .i64 kk, .string ⟨ss.toArray⟩, .int .i64 nn, .int .u8 (tt.toNat : Int)] 33)).heap.size := by simp; omega
        have hlf := left_any hLa.dsk hLa.ok
        obtain ⟨R, hR⟩ : ∃ R, D.size - D.xs.length = R := ⟨_, rfl⟩
        rw [hR] at hlf
        have hfull := hL.ok.full
        have hszD := hL.ok.size
        by_cases h0 : kk = 0
        · subst h0
          rcases add_cases hd ss with ⟨h1, h2, h3⟩ | ⟨h1, h3⟩ | ⟨h1, h2, h3⟩
          · as_aux_lemma =>
              go_wp2_with fail
              refine hlf.mono ?_
              rintro e w5 ⟨rfl, k5⟩
              have hL5 := hLa.still k5
              have hC5 := k5.at_ hC
              have b5 := bA.trans (k5.below w.heap.size)
              have z5 : B ≤ w5.heap.size := by rw [k5.size]; exact zA
              generalize wr.heap.size = C at *
              have r0 : w5.cell? ⟨C, 0, none⟩ = _ := At.cell hC5 0
              have r1 : w5.cell? ⟨C, 1, none⟩ = _ := At.cell hC5 1
              have r2 : w5.cell? ⟨C, 2, none⟩ = _ := At.cell hC5 2
              have r3 : w5.cell? ⟨C, 3, none⟩ = _ := At.cell hC5 3
              clear hlf hba bA zA hLa hC k5 hL hb hz

              have had := add_any hL5 (by omega) ss (by unfold maxLen; omega) z5
              rw [h3] at had
              simp only [if_true] at had
              go_wp2_with fail
              refine had.mono ?_
              rintro e w6 ⟨rfl, v6, hL6, hM6⟩
              have b6 : Below w.heap.size w w6 := b5.trans (hM6.below hL5 hB z5)
              have z6 := Nat.le_trans z5 hM6.size
              have hC6 := hM6.at_ hL5 hC5 (by decide) (by decide) (by decide)
              clear had hM6 hL5 hC5 r0 r1 r2 r3
              have r1 : w6.cell? ⟨C, 1, none⟩ = _ := At.cell hC6 1
              have hsz := fun w' => size_any ss (by omega) w'
              have hlq := fun w' (k : Still w6 w') => left_quiet (hL6.dsk.still k) hL6.ok
              obtain ⟨R2, hR2⟩ : ∃ R2, D.size - (D.xs ++ frameOf ss).length = R2 := ⟨_, rfl⟩
              simp only [hR2] at hlq
              obtain ⟨X, hX⟩ : ∃ X : Int, (R : Int) - (ss.length : Int) = X := ⟨_, rfl⟩
              have hRR : R2 + ss.length + 6 = R := by rw [List.length_append, frameOf_length] at hR2; omega
              have hw1 : IntKind.i64.wrap ((R : Int) - (ss.length : Int)) = X := by rw [IntKind.wrap_i64]; omega
              have hw2 : IntKind.i64.wrap (X - 6) = (R2 : Int) := by rw [IntKind.wrap_i64]; omega
              have d1 : decide ((65535 : Int) < (ss.length : Int)) = false := by simp; omega
              have d1' : ¬ (65535 : Int) < (ss.length : Int) := by omega
              have d2 : decide ((R : Int) < (ss.length : Int) + 6) = false := by simp; omega
              have d2' : ¬ (R : Int) < (ss.length : Int) + 6 := by omega
              have hw3 : IntKind.i64.wrap ((ss.length : Int) + 6) = (ss.length : Int) + 6 := by rw [IntKind.wrap_i64]; omega
              clear hX hRR hR2 h3
              have HR := Lib.hid hR
              clear hR
              go_wp2_with fail
              go_quiet (first
                | (go_at_call 12; refine Calls.quiet_of (hlq _ (Still.drewN _ _)))
                | (go_at_call 14; refine Calls.quiet_of_same ((hsz _).mono fun _ _ h => ⟨h.1, h.2.symm⟩)))
              have k7 := Still.drewN w6 nq
              have hT := hL6.still k7
              have hC7 := k7.at_ hC6
              have bT := b6.trans (k7.below w.heap.size)
              have zT : B ≤ (w6.drewN nq).heap.size := by rw [k7.size]; exact z6
              generalize w6.drewN nq = w7 at *
              have r0 : w7.cell? ⟨C, 0, none⟩ = _ := At.cell hC7 0
              have hdT : ({ D with xs := D.xs ++ frameOf ss }).down = false := hd
              have hboT : ({ D with xs := D.xs ++ frameOf ss }).boots ≤ 1 + (k + 1) := by show D.boots ≤ _; omega
              clear hL6 r1 hlq hw1 hw2

              have hra := room_any hT
              have hlq := fun w' (k : Still w7 w') => left_any (hT.dsk.still k) hT.ok
              have hln := fun w' (k : Still w7 w') => len_any (hT.still k)
              obtain ⟨R7, hR7⟩ : ∃ R7, ({ D with xs := D.xs ++ frameOf ss }).size - ({ D with xs := D.xs ++ frameOf ss }).xs.length = R7 := ⟨_, rfl⟩
              simp only [hR7] at hra hlq
              clear hR7
              go_wp2_with fail
              refine hra.mono ?_
              rintro e w8 ⟨rfl, m, rfl⟩
              go_wp2_with fail
              refine (hlq _ (Still.drewN _ m)).mono ?_
              rintro e w9 ⟨rfl, k9⟩
              have k9' := (Still.drewN w7 m).trans k9
              go_wp2_with fail
              refine (hln _ k9').mono ?_
              rintro e w10 ⟨rfl, rfl⟩
              go_wp2_with fail
              exact ⟨⟨k + 1, L, v6, { D with xs := D.xs ++ frameOf ss }, c + 1, by omega, by go_num, rfl, by go_num, hT.still k9', hdT, by omega, hboT, bT.trans (k9'.below _), by rw [k9'.size]; exact zT⟩, by simp [intOf]; omega⟩
          · as_aux_lemma =>
              go_wp2_with fail
              refine hlf.mono ?_
              rintro e w5 ⟨rfl, k5⟩
              have hL5 := hLa.still k5
              have hC5 := k5.at_ hC
              have b5 := bA.trans (k5.below w.heap.size)
              have z5 : B ≤ w5.heap.size := by rw [k5.size]; exact zA
              generalize wr.heap.size = C at *
              have r0 : w5.cell? ⟨C, 0, none⟩ = _ := At.cell hC5 0
              have r1 : w5.cell? ⟨C, 1, none⟩ = _ := At.cell hC5 1
              have r2 : w5.cell? ⟨C, 2, none⟩ = _ := At.cell hC5 2
              have r3 : w5.cell? ⟨C, 3, none⟩ = _ := At.cell hC5 3
              clear hlf hba bA zA hLa hC k5 hL hb hz

              have had := add_any hL5 (by omega) ss (by unfold maxLen; omega) z5
              rw [h3] at had
              simp only [if_neg (show ¬ (3 = 0) by decide)] at had
              go_wp2_with fail
              refine had.mono ?_
              rintro e w6 ⟨rfl, v6, hL6, hM6⟩
              have b6 : Below w.heap.size w w6 := b5.trans (hM6.below hL5 hB z5)
              have z6 := Nat.le_trans z5 hM6.size
              have hC6 := hM6.at_ hL5 hC5 (by decide) (by decide) (by decide)
              clear had hM6 hL5 hC5 r0 r1 r2 r3
              have r1 : w6.cell? ⟨C, 1, none⟩ = _ := At.cell hC6 1
              have hsz := fun w' => size_any ss (by omega) w'
              have d1 : decide ((65535 : Int) < (ss.length : Int)) = true := by simp; omega
              have hw3 : IntKind.i64.wrap ((ss.length : Int) + 6) = (ss.length : Int) + 6 := by rw [IntKind.wrap_i64]; omega
              clear h3
              have HR := Lib.hid hR
              clear hR
              go_wp2_with fail
              go_quiet (first
                | (go_at_call 14; refine Calls.quiet_of_same ((hsz _).mono fun _ _ h => ⟨h.1, h.2.symm⟩)))
              have k7 := Still.drewN w6 nq
              have hT := hL6.still k7
              have hC7 := k7.at_ hC6
              have bT := b6.trans (k7.below w.heap.size)
              have zT : B ≤ (w6.drewN nq).heap.size := by rw [k7.size]; exact z6
              generalize w6.drewN nq = w7 at *
              have r0 : w7.cell? ⟨C, 0, none⟩ = _ := At.cell hC7 0
              have hdT : (D).down = false := hd
              have hboT : (D).boots ≤ 1 + (k + 1) := by show D.boots ≤ _; omega
              clear hL6 r1

              have hra := room_any hT
              have hlq := fun w' (k : Still w7 w') => left_any (hT.dsk.still k) hT.ok
              have hln := fun w' (k : Still w7 w') => len_any (hT.still k)
              obtain ⟨R7, hR7⟩ : ∃ R7, (D).size - (D).xs.length = R7 := ⟨_, rfl⟩
              simp only [hR7] at hra hlq
              clear hR7
              go_wp2_with fail
              refine hra.mono ?_
              rintro e w8 ⟨rfl, m, rfl⟩
              go_wp2_with fail
              refine (hlq _ (Still.drewN _ m)).mono ?_
              rintro e w9 ⟨rfl, k9⟩
              have k9' := (Still.drewN w7 m).trans k9
              go_wp2_with fail
              refine (hln _ k9').mono ?_
              rintro e w10 ⟨rfl, rfl⟩
              go_wp2_with fail
              exact ⟨⟨k + 1, L, v6, D, c, by omega, by go_num, rfl, by go_num, hT.still k9', hdT, by omega, hboT, bT.trans (k9'.below _), by rw [k9'.size]; exact zT⟩, by simp [intOf]; omega⟩
          · as_aux_lemma =>
              go_wp2_with fail
              refine hlf.mono ?_
              rintro e w5 ⟨rfl, k5⟩
              have hL5 := hLa.still k5
              have hC5 := k5.at_ hC
              have b5 := bA.trans (k5.below w.heap.size)
              have z5 : B ≤ w5.heap.size := by rw [k5.size]; exact zA
              generalize wr.heap.size = C at *
              have r0 : w5.cell? ⟨C, 0, none⟩ = _ := At.cell hC5 0
              have r1 : w5.cell? ⟨C, 1, none⟩ = _ := At.cell hC5 1
              have r2 : w5.cell? ⟨C, 2, none⟩ = _ := At.cell hC5 2
              have r3 : w5.cell? ⟨C, 3, none⟩ = _ := At.cell hC5 3
              clear hlf hba bA zA hLa hC k5 hL hb hz

              have had := add_any hL5 (by omega) ss (by unfold maxLen; omega) z5
              rw [h3] at had
              simp only [if_neg (show ¬ (6 = 0) by decide)] at had
              go_wp2_with fail
              refine had.mono ?_
              rintro e w6 ⟨rfl, v6, hL6, hM6⟩
              have b6 : Below w.heap.size w w6 := b5.trans (hM6.below hL5 hB z5)
              have z6 := Nat.le_trans z5 hM6.size
              have hC6 := hM6.at_ hL5 hC5 (by decide) (by decide) (by decide)
              clear had hM6 hL5 hC5 r0 r1 r2 r3
              have r1 : w6.cell? ⟨C, 1, none⟩ = _ := At.cell hC6 1
              have hsz := fun w' => size_any ss (by omega) w'
              have d1 : decide ((65535 : Int) < (ss.length : Int)) = false := by simp; omega
              have d1' : ¬ (65535 : Int) < (ss.length : Int) := by omega
              have d2 : decide ((R : Int) < (ss.length : Int) + 6) = true := by simp; omega
              have hw3 : IntKind.i64.wrap ((ss.length : Int) + 6) = (ss.length : Int) + 6 := by rw [IntKind.wrap_i64]; omega
              clear h3
              have HR := Lib.hid hR
              clear hR
              go_wp2_with fail
              go_quiet (first
                | (go_at_call 14; refine Calls.quiet_of_same ((hsz _).mono fun _ _ h => ⟨h.1, h.2.symm⟩)))
              have k7 := Still.drewN w6 nq
              have hT := hL6.still k7
              have hC7 := k7.at_ hC6
              have bT := b6.trans (k7.below w.heap.size)
              have zT : B ≤ (w6.drewN nq).heap.size := by rw [k7.size]; exact z6
              generalize w6.drewN nq = w7 at *
              have r0 : w7.cell? ⟨C, 0, none⟩ = _ := At.cell hC7 0
              have hdT : (D).down = false := hd
              have hboT : (D).boots ≤ 1 + (k + 1) := by show D.boots ≤ _; omega
              clear hL6 r1

              have hra := room_any hT
              have hlq := fun w' (k : Still w7 w') => left_any (hT.dsk.still k) hT.ok
              have hln := fun w' (k : Still w7 w') => len_any (hT.still k)
              obtain ⟨R7, hR7⟩ : ∃ R7, (D).size - (D).xs.length = R7 := ⟨_, rfl⟩
              simp only [hR7] at hra hlq
              clear hR7
              go_wp2_with fail
              refine hra.mono ?_
              rintro e w8 ⟨rfl, m, rfl⟩
              go_wp2_with fail
              refine (hlq _ (Still.drewN _ m)).mono ?_
              rintro e w9 ⟨rfl, k9⟩
              have k9' := (Still.drewN w7 m).trans k9
              go_wp2_with fail
              refine (hln _ k9').mono ?_
              rintro e w10 ⟨rfl, rfl⟩
              go_wp2_with fail
              exact ⟨⟨k + 1, L, v6, D, c, by omega, by go_num, rfl, by go_num, hT.still k9', hdT, by omega, hboT, bT.trans (k9'.below _), by rw [k9'.size]; exact zT⟩, by simp [intOf]; omega⟩
        · have t0 : (kk == 0) = false := by simp; omega
          by_cases h1 : kk = 1
          · subst h1
            · as_aux_lemma =>
                go_wp2_with fail
                refine hlf.mono ?_
                rintro e w5 ⟨rfl, k5⟩
                have hL5 := hLa.still k5
                have hC5 := k5.at_ hC
                have b5 := bA.trans (k5.below w.heap.size)
                have z5 : B ≤ w5.heap.size := by rw [k5.size]; exact zA
                generalize wr.heap.size = C at *
                have r0 : w5.cell? ⟨C, 0, none⟩ = _ := At.cell hC5 0
                have r1 : w5.cell? ⟨C, 1, none⟩ = _ := At.cell hC5 1
                have r2 : w5.cell? ⟨C, 2, none⟩ = _ := At.cell hC5 2
                have r3 : w5.cell? ⟨C, 3, none⟩ = _ := At.cell hC5 3
                clear hlf hba bA zA hLa hC k5 hL hb hz

                have hfo := force_any hL5
                have hsy : D.sync = (0, { D with safe := D.xs.length }) := by unfold Dk.sync; rw [hd, if_neg Bool.false_ne_true]
                rw [hsy] at hfo
                clear hsy
                go_wp2_with fail
                refine hfo.mono ?_
                rintro e w6 ⟨rfl, hT, hM6⟩
                have bT : Below w.heap.size w w6 := b5.trans (hM6.below hL5 hB z5)
                have zT := Nat.le_trans z5 hM6.size
                have hC6 := hM6.at_ hL5 hC5 (by decide) (by decide) (by decide)
                clear hfo hM6 hL5 hC5 r0 r1 r2 r3
                have r0 : w6.cell? ⟨C, 0, none⟩ = _ := At.cell hC6 0
                have hrd := read_any hT.dsk
                have hrd2 : Calls Try.prog 17 #[.pointer (some ⟨B, 0, none⟩)] w6 fun e w' => e = .returned (.string ⟨D.xs.toArray⟩) ∧ w6 = w' := by
                  unfold Dk.read at hrd
                  simp only [hd, if_neg Bool.false_ne_true] at hrd
                  exact hrd
                clear hrd
                have hdT : ({ D with safe := D.xs.length }).down = false := hd
                have hboT : ({ D with safe := D.xs.length }).boots ≤ 1 + (k + 1) := by show D.boots ≤ _; omega
                have hl9 : D.xs.length ≤ 262144 := by omega
                go_wp2_with fail
                refine (safe_any hT.dsk).mono ?_
                rintro e w7 ⟨rfl, rfl⟩
                go_wp2_with fail
                refine hrd2.mono ?_
                rintro e w7 ⟨rfl, rfl⟩

                have hra := room_any hT
                have hlq := fun w' (k : Still w6 w') => left_any (hT.dsk.still k) hT.ok
                have hln := fun w' (k : Still w6 w') => len_any (hT.still k)
                obtain ⟨R7, hR7⟩ : ∃ R7, ({ D with safe := D.xs.length }).size - ({ D with safe := D.xs.length }).xs.length = R7 := ⟨_, rfl⟩
                simp only [hR7] at hra hlq
                clear hR7
                go_wp2_with fail
                refine hra.mono ?_
                rintro e w8 ⟨rfl, m, rfl⟩
                go_wp2_with fail
                refine (hlq _ (Still.drewN _ m)).mono ?_
                rintro e w9 ⟨rfl, k9⟩
                have k9' := (Still.drewN w6 m).trans k9
                go_wp2_with fail
                refine (hln _ k9').mono ?_
                rintro e w10 ⟨rfl, rfl⟩
                go_wp2_with fail
                exact ⟨⟨k + 1, L, v, { D with safe := D.xs.length }, c, by omega, by go_num, rfl, by go_num, hT.still k9', hdT, by omega, hboT, bT.trans (k9'.below _), by rw [k9'.size]; exact zT⟩, by simp [intOf]; omega⟩
          · have t1 : (kk == 1) = false := by simp; omega
            by_cases h2 : kk = 2
            · subst h2
              · as_aux_lemma =>
                  go_wp2_with fail
                  refine hlf.mono ?_
                  rintro e w5 ⟨rfl, k5⟩
                  have hL5 := hLa.still k5
                  have hC5 := k5.at_ hC
                  have b5 := bA.trans (k5.below w.heap.size)
                  have z5 : B ≤ w5.heap.size := by rw [k5.size]; exact zA
                  generalize wr.heap.size = C at *
                  have r0 : w5.cell? ⟨C, 0, none⟩ = _ := At.cell hC5 0
                  have r1 : w5.cell? ⟨C, 1, none⟩ = _ := At.cell hC5 1
                  have r2 : w5.cell? ⟨C, 2, none⟩ = _ := At.cell hC5 2
                  have r3 : w5.cell? ⟨C, 3, none⟩ = _ := At.cell hC5 3
                  clear hlf hba bA zA hLa hC k5 hL hb hz

                  obtain ⟨o1, o2, o3⟩ := off_on_down hd nn tt
                  have hof := off_any hL5.dsk hL5.ok nn tt
                  have ok6 := off_ok hL5.ok nn tt
                  have hb6o : (D.off nn tt).boots < 1000000 := by rw [off_boots]; omega
                  go_wp2_with fail
                  refine hof.mono ?_
                  rintro e w6 ⟨rfl, v6, hD6, hG6⟩
                  have b6 : Below w.heap.size w w6 := b5.trans (hG6.below' hL5.dsk hL5.lb hB z5)
                  have z6 := Nat.le_trans z5 hG6.size
                  have hL6 := hL5.moved hG6 hD6 ok6
                  have hC6 := (Moved.of_disk (m := L) hG6).at_ hL5 hC5 (by decide) (by decide) (by decide)
                  have hlb := hL5.lb
                  clear hof hL5 hC5 r0 r1 r2 r3 hG6
                  have hbE : (D.off nn tt).on.boots = D.boots + 1 := o3
                  generalize D.off nn tt = E at *
                  have hopd := open_down hD6 ok6 o1
                  go_wp2_with fail
                  refine hopd.mono ?_
                  rintro e w7 ⟨rfl, v7, hD7, hG7⟩
                  have b7 : Below w.heap.size w w7 := b6.trans (hG7.below' hD6 hlb hB z6)
                  have z7 := Nat.le_trans z6 hG7.size
                  have hL7 := hL6.moved hG7 hD7 ok6
                  have hC7 := (Moved.of_disk (m := L) hG7).at_ hL6 hC6 (by decide) (by decide) (by decide)
                  have had := add_any hL7 (by omega) [] (by simp) z7
                  have ha7 : E.add [] = (7, E) := by unfold Dk.add; rw [o1, if_pos rfl]
                  rw [ha7] at had
                  simp only [if_neg (show ¬ (7 = 0) by decide)] at had
                  clear hopd hL6 hC6 hD6 hD7 hG7 ha7
                  go_wp2_with fail
                  refine had.mono ?_
                  rintro e w8 ⟨rfl, v8, hL8, hM8⟩
                  have b8 : Below w.heap.size w w8 := b7.trans (hM8.below hL7 hB z7)
                  have z8 := Nat.le_trans z7 hM8.size
                  have hC8 := hM8.at_ hL7 hC7 (by decide) (by decide) (by decide)
                  have hfo := force_any hL8
                  have hs7 : E.sync = (7, E) := by unfold Dk.sync; rw [o1, if_pos rfl]
                  rw [hs7] at hfo
                  clear had hL7 hC7 hM8 hs7
                  go_wp2_with fail
                  refine hfo.mono ?_
                  rintro e w9 ⟨rfl, hL9, hM9⟩
                  have b9 : Below w.heap.size w w9 := b8.trans (hM9.below hL8 hB z8)
                  have z9 := Nat.le_trans z8 hM9.size
                  have hC9 := hM9.at_ hL8 hC8 (by decide) (by decide) (by decide)
                  have hon := on_any hL9.dsk hb6o
                  clear hfo hL8 hC8 hM9
                  go_wp2_with fail
                  refine hon.mono ?_
                  rintro e w10 ⟨rfl, hD10, hG10⟩
                  have b10 : Below w.heap.size w w10 := b9.trans (hG10.below' hL9.dsk hlb hB z9)
                  have z10 := Nat.le_trans z9 hG10.size
                  have hL10 := hL9.moved hG10 hD10 (on_ok ok6)
                  have hC10 := (Moved.of_disk (m := L) hG10).at_ hL9 hC9 (by decide) (by decide) (by decide)
                  have r0 : w10.cell? ⟨C, 0, none⟩ = _ := At.cell hC10 0
                  have hboT : E.on.cut.boots ≤ 1 + (k + 1) := by show E.on.boots ≤ _; omega
                  clear hon hL9 hC9 hD10 hG10 hbE o1 o3 ok6 hb6o
                  generalize E.on = F at *

                  have hop := open_any hL10.dsk hL10.ok o2 hL10.lb z10
                  have hrd : Calls Try.prog 17 #[.pointer (some ⟨B, 0, none⟩)] w10 fun e w' => e = .returned (.string ⟨(F).xs.toArray⟩) ∧ w10 = w' := by
                    have hrd := read_any hL10.dsk
                    unfold Dk.read at hrd
                    simp only [o2, if_neg Bool.false_ne_true] at hrd
                    exact hrd
                  have hxl : (F).xs.length ≤ 1000000 := by have := hL10.ok.full; have := hL10.ok.size; omega
                  have htk : took (scanOf (F).xs) ≤ 1000000 := by have := (scanOf_spec (F).xs).2.2.2; omega
                  have hrl : (scanOf (F).xs).length ≤ 100000 := by have := took_ge (scanOf (F).xs); have := (scanOf_spec (F).xs).2.2.2; have := hL10.ok.full; have := hL10.ok.size; omega
                  have hcx : (F).cut.xs.length = took (scanOf (F).xs) := by
                    show ((F).xs.take _).length = _
                    rw [take_took, frames_length]
                  have hrs := fun w => refScan_any (F).xs hxl w
                  have hdT : (F).cut.down = false := o2
                  have hopq : ∀ w1, Below w10.heap.size w10 w1 → Calls Try.prog 11 #[.pointer (some ⟨B, 0, none⟩)] w1 fun e w' => ∃ A c L v', e = .returned (.tuple #[.pointer (some ⟨L, 0, none⟩), .slice A (scanOf (F).xs).length c, .int .i64 0]) ∧ OwnsS w' w1.heap.size (.slice A (scanOf (F).xs).length c) (scanOf (F).xs) ∧ Lg w' B L B v' (F).cut (scanOf (F).xs).length ∧ Wgrew w1 B v8 w' v' := fun w1 hb1 => open_any (hL10.fresh hb1).dsk hL10.ok o2 hL10.lb (Nat.le_trans z10 hb1.size)
                  have HCX := Lib.hid hcx
                  clear hop hcx
                  generalize scanOf (F).xs = rs at *
                  go_wp2_with fail
                  refine hrd.mono ?_
                  rintro e w11 ⟨rfl, rfl⟩
                  go_wp2_with fail
                  refine (hrs _).mono ?_
                  rintro e w12 ⟨A12, c12, rfl, hO12, bl12⟩
                  have hL12 := hL10.fresh bl12
                  have hC12 := hC10.below bl12 hC10.lt
                  have b12 := below_join b10 bl12 (Nat.le_trans hB z10)
                  have z12 := Nat.le_trans z10 bl12.size
                  have hop := hopq _ bl12
                  clear hopq hrd hrs
                  go_wp2_with fail
                  refine hop.mono ?_
                  rintro e w13 ⟨A13, c13, L13, v13, rfl, hO13, hT, hG13⟩
                  have hS12 := hO12.moved hL12 (Moved.of_disk (m := L) hG13)
                  have hC13 := (Moved.of_disk (m := L) hG13).at_ hL12 hC12 (by decide) (by decide) (by decide)
                  have bT : Below w.heap.size w w13 := b12.trans (hG13.below' hL12.dsk hL12.lb hB z12)
                  have zT := Nat.le_trans z12 hG13.size
                  have hsame := same_any A13 _ c13 _ A12 _ c12 _ w13 hO13.strs hS12.strs (by unfold maxLen; omega) (by unfold maxLen; omega) rfl
                  clear hop hL12 hC12 hG13 hO12 hO13 hS12
                  go_wp2_with fail
                  refine hsame.mono ?_
                  rintro e w14 ⟨rfl, k14⟩
                  have hT := hT.still k14
                  have bT := bT.trans (k14.below w.heap.size)
                  have zT : B ≤ w14.heap.size := by rw [k14.size]; exact zT
                  have hC14 := k14.at_ hC13
                  have hrd : Calls Try.prog 17 #[.pointer (some ⟨B, 0, none⟩)] w14 fun e w' => e = .returned (.string ⟨(F).cut.xs.toArray⟩) ∧ w14 = w' := by
                    have hrd := read_any hT.dsk
                    unfold Dk.read at hrd
                    simp only [hdT, if_neg Bool.false_ne_true] at hrd
                    exact hrd
                  have hcl := HCX.out
                  obtain ⟨qs, hqs⟩ : ∃ qs, (F).cut.xs = qs := ⟨_, rfl⟩
                  rw [hqs] at hrd hcl
                  have HQS := Lib.hid hqs
                  clear hsame hqs hC13
                  obtain ⟨N, hN⟩ : ∃ N, took rs = N := ⟨_, rfl⟩
                  rw [hN] at hcl htk ⊢
                  clear hN
                  go_wp2_with fail
                  refine hrd.mono ?_
                  rintro e w15 ⟨rfl, rfl⟩
                  clear hrd HCX

                  have hra := room_any hT
                  have hlq := fun w' (k : Still w14 w') => left_any (hT.dsk.still k) hT.ok
                  have hln := fun w' (k : Still w14 w') => len_any (hT.still k)
                  obtain ⟨R7, hR7⟩ : ∃ R7, (F.cut).size - (F.cut).xs.length = R7 := ⟨_, rfl⟩
                  simp only [hR7] at hra hlq
                  clear hR7
                  go_wp2_with fail
                  refine hra.mono ?_
                  rintro e w8 ⟨rfl, m, rfl⟩
                  go_wp2_with fail
                  refine (hlq _ (Still.drewN _ m)).mono ?_
                  rintro e w9 ⟨rfl, k9⟩
                  have k9' := (Still.drewN w14 m).trans k9
                  go_wp2_with fail
                  refine (hln _ k9').mono ?_
                  rintro e w10 ⟨rfl, rfl⟩
                  go_wp2_with fail
                  exact ⟨⟨k + 1, L13, v13, F.cut, rs.length, by omega, by go_num, rfl, by go_num, hT.still k9', hdT, by omega, hboT, bT.trans (k9'.below _), by rw [k9'.size]; exact zT⟩, by simp [intOf]; omega⟩
            · have t2 : (kk == 2) = false := by simp; omega
              by_cases h3 : kk = 3
              · subst h3
                · as_aux_lemma =>
                    go_wp2_with fail
                    refine hlf.mono ?_
                    rintro e w5 ⟨rfl, k5⟩
                    have hL5 := hLa.still k5
                    have hC5 := k5.at_ hC
                    have b5 := bA.trans (k5.below w.heap.size)
                    have z5 : B ≤ w5.heap.size := by rw [k5.size]; exact zA
                    generalize wr.heap.size = C at *
                    have r0 : w5.cell? ⟨C, 0, none⟩ = _ := At.cell hC5 0
                    have r1 : w5.cell? ⟨C, 1, none⟩ = _ := At.cell hC5 1
                    have r2 : w5.cell? ⟨C, 2, none⟩ = _ := At.cell hC5 2
                    have r3 : w5.cell? ⟨C, 3, none⟩ = _ := At.cell hC5 3
                    clear hlf hba bA zA hLa hC k5 hL hb hz

                    have hboT : D.cut.boots ≤ 1 + (k + 1) := by show D.boots ≤ _; omega

                    have hop := open_any hL5.dsk hL5.ok hd hL5.lb z5
                    have hrd : Calls Try.prog 17 #[.pointer (some ⟨B, 0, none⟩)] w5 fun e w' => e = .returned (.string ⟨(D).xs.toArray⟩) ∧ w5 = w' := by
                      have hrd := read_any hL5.dsk
                      unfold Dk.read at hrd
                      simp only [hd, if_neg Bool.false_ne_true] at hrd
                      exact hrd
                    have hxl : (D).xs.length ≤ 1000000 := by have := hL5.ok.full; have := hL5.ok.size; omega
                    have htk : took (scanOf (D).xs) ≤ 1000000 := by have := (scanOf_spec (D).xs).2.2.2; omega
                    have hrl : (scanOf (D).xs).length ≤ 100000 := by have := took_ge (scanOf (D).xs); have := (scanOf_spec (D).xs).2.2.2; have := hL5.ok.full; have := hL5.ok.size; omega
                    have hcx : (D).cut.xs.length = took (scanOf (D).xs) := by
                      show ((D).xs.take _).length = _
                      rw [take_took, frames_length]
                    have hrs := fun w => refScan_any (D).xs hxl w
                    have hdT : (D).cut.down = false := hd
                    have hopq : ∀ w1, Below w5.heap.size w5 w1 → Calls Try.prog 11 #[.pointer (some ⟨B, 0, none⟩)] w1 fun e w' => ∃ A c L v', e = .returned (.tuple #[.pointer (some ⟨L, 0, none⟩), .slice A (scanOf (D).xs).length c, .int .i64 0]) ∧ OwnsS w' w1.heap.size (.slice A (scanOf (D).xs).length c) (scanOf (D).xs) ∧ Lg w' B L B v' (D).cut (scanOf (D).xs).length ∧ Wgrew w1 B v w' v' := fun w1 hb1 => open_any (hL5.fresh hb1).dsk hL5.ok hd hL5.lb (Nat.le_trans z5 hb1.size)
                    have HCX := Lib.hid hcx
                    clear hop hcx
                    generalize scanOf (D).xs = rs at *
                    go_wp2_with fail
                    refine hrd.mono ?_
                    rintro e w11 ⟨rfl, rfl⟩
                    go_wp2_with fail
                    refine (hrs _).mono ?_
                    rintro e w12 ⟨A12, c12, rfl, hO12, bl12⟩
                    have hL12 := hL5.fresh bl12
                    have hC12 := hC5.below bl12 hC5.lt
                    have b12 := below_join b5 bl12 (Nat.le_trans hB z5)
                    have z12 := Nat.le_trans z5 bl12.size
                    have hop := hopq _ bl12
                    clear hopq hrd hrs
                    go_wp2_with fail
                    refine hop.mono ?_
                    rintro e w13 ⟨A13, c13, L13, v13, rfl, hO13, hT, hG13⟩
                    have hS12 := hO12.moved hL12 (Moved.of_disk (m := L) hG13)
                    have hC13 := (Moved.of_disk (m := L) hG13).at_ hL12 hC12 (by decide) (by decide) (by decide)
                    have bT : Below w.heap.size w w13 := b12.trans (hG13.below' hL12.dsk hL12.lb hB z12)
                    have zT := Nat.le_trans z12 hG13.size
                    have hsame := same_any A13 _ c13 _ A12 _ c12 _ w13 hO13.strs hS12.strs (by unfold maxLen; omega) (by unfold maxLen; omega) rfl
                    clear hop hL12 hC12 hG13 hO12 hO13 hS12
                    go_wp2_with fail
                    refine hsame.mono ?_
                    rintro e w14 ⟨rfl, k14⟩
                    have hT := hT.still k14
                    have bT := bT.trans (k14.below w.heap.size)
                    have zT : B ≤ w14.heap.size := by rw [k14.size]; exact zT
                    have hC14 := k14.at_ hC13
                    have hrd : Calls Try.prog 17 #[.pointer (some ⟨B, 0, none⟩)] w14 fun e w' => e = .returned (.string ⟨(D).cut.xs.toArray⟩) ∧ w14 = w' := by
                      have hrd := read_any hT.dsk
                      unfold Dk.read at hrd
                      simp only [hdT, if_neg Bool.false_ne_true] at hrd
                      exact hrd
                    have hcl := HCX.out
                    obtain ⟨qs, hqs⟩ : ∃ qs, (D).cut.xs = qs := ⟨_, rfl⟩
                    rw [hqs] at hrd hcl
                    have HQS := Lib.hid hqs
                    clear hsame hqs hC13
                    obtain ⟨N, hN⟩ : ∃ N, took rs = N := ⟨_, rfl⟩
                    rw [hN] at hcl htk ⊢
                    clear hN
                    go_wp2_with fail
                    refine hrd.mono ?_
                    rintro e w15 ⟨rfl, rfl⟩
                    clear hrd HCX

                    have hra := room_any hT
                    have hlq := fun w' (k : Still w14 w') => left_any (hT.dsk.still k) hT.ok
                    have hln := fun w' (k : Still w14 w') => len_any (hT.still k)
                    obtain ⟨R7, hR7⟩ : ∃ R7, (D.cut).size - (D.cut).xs.length = R7 := ⟨_, rfl⟩
                    simp only [hR7] at hra hlq
                    clear hR7
                    go_wp2_with fail
                    refine hra.mono ?_
                    rintro e w8 ⟨rfl, m, rfl⟩
                    go_wp2_with fail
                    refine (hlq _ (Still.drewN _ m)).mono ?_
                    rintro e w9 ⟨rfl, k9⟩
                    have k9' := (Still.drewN w14 m).trans k9
                    go_wp2_with fail
                    refine (hln _ k9').mono ?_
                    rintro e w10 ⟨rfl, rfl⟩
                    go_wp2_with fail
                    exact ⟨⟨k + 1, L13, v13, D.cut, rs.length, by omega, by go_num, rfl, by go_num, hT.still k9', hdT, by omega, hboT, bT.trans (k9'.below _), by rw [k9'.size]; exact zT⟩, by simp [intOf]; omega⟩
              · have t3 : (kk == 3) = false := by simp; omega
                · as_aux_lemma =>
                    go_wp2_with fail
                    refine hlf.mono ?_
                    rintro e w5 ⟨rfl, k5⟩
                    have hL5 := hLa.still k5
                    have hC5 := k5.at_ hC
                    have b5 := bA.trans (k5.below w.heap.size)
                    have z5 : B ≤ w5.heap.size := by rw [k5.size]; exact zA
                    generalize wr.heap.size = C at *
                    have r0 : w5.cell? ⟨C, 0, none⟩ = _ := At.cell hC5 0
                    have r1 : w5.cell? ⟨C, 1, none⟩ = _ := At.cell hC5 1
                    have r2 : w5.cell? ⟨C, 2, none⟩ = _ := At.cell hC5 2
                    have r3 : w5.cell? ⟨C, 3, none⟩ = _ := At.cell hC5 3
                    clear hlf hba bA zA hLa hC k5 hL hb hz

                    have hT := hL5
                    have bT := b5
                    have zT := z5
                    have hdT := hd
                    have hboT : D.boots ≤ 1 + (k + 1) := by omega

                    have hra := room_any hT
                    have hlq := fun w' (k : Still w5 w') => left_any (hT.dsk.still k) hT.ok
                    have hln := fun w' (k : Still w5 w') => len_any (hT.still k)
                    obtain ⟨R7, hR7⟩ : ∃ R7, (D).size - (D).xs.length = R7 := ⟨_, rfl⟩
                    simp only [hR7] at hra hlq
                    clear hR7
                    go_wp2_with fail
                    refine hra.mono ?_
                    rintro e w8 ⟨rfl, m, rfl⟩
                    go_wp2_with fail
                    refine (hlq _ (Still.drewN _ m)).mono ?_
                    rintro e w9 ⟨rfl, k9⟩
                    have k9' := (Still.drewN w5 m).trans k9
                    go_wp2_with fail
                    refine (hln _ k9').mono ?_
                    rintro e w10 ⟨rfl, rfl⟩
                    go_wp2_with fail
                    exact ⟨⟨k + 1, L, v, D, c, by omega, by go_num, rfl, by go_num, hT.still k9', hdT, by omega, hboT, bT.trans (k9'.below _), by rw [k9'.size]; exact zT⟩, by simp [intOf]; omega⟩
      · obtain rfl : n = k := by omega
        clear hL
        go_wp2_with fail
        refine (open_nil _).mono ?_
        rintro e w5 ⟨rfl, bl5⟩
        have b5 := below_join hb bl5 hb.size
        go_wp2_with fail
        refine (nil_add _ _).mono ?_
        rintro e w6 ⟨rfl, rfl⟩
        go_wp2_with fail
        refine (nil_force _).mono ?_
        rintro e w6 ⟨rfl, rfl⟩
        go_wp2_with fail
        refine (nil_room _).mono ?_
        rintro e w6 ⟨rfl, rfl⟩
        go_wp2_with fail
        refine (nil_len _).mono ?_
        rintro e w6 ⟨rfl, rfl⟩
        go_wp2_with fail
        go_ret
        exact ⟨rfl, b5⟩
end Go.Proofs.Ytmdoicemkddpgaa
