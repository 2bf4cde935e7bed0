/- The walk of the law WalAgain. -/
import Derived.Test.YtmdoicemkddpgaaWalU
namespace Go.Proofs.Ytmdoicemkddpgaa
open Go.RowKit

theorem cut_cut (D : Dk) : scanOf D.cut.xs = scanOf D.xs ∧ D.cut.cut = D.cut := by
  have h : scanOf D.cut.xs = scanOf D.xs := scanOf_took D.xs
  refine ⟨h, ?_⟩
  have e : D.cut.cut = { D.cut with xs := D.cut.xs.take (took (scanOf D.cut.xs)), safe := took (scanOf D.cut.xs) } := rfl
  rw [e, h]
  unfold Dk.cut
  simp only [List.take_take, Nat.min_self]
theorem off_on_down {D : Dk} (hd : D.down = false) (k : Int) (t : UInt8) : (D.off k t).down = true ∧ (D.off k t).on.down = false ∧ (D.off k t).on.boots = D.boots + 1 := by
  have h1 : (D.off k t).down = true := by unfold Dk.off; rw [hd]; rfl
  refine ⟨h1, ?_, ?_⟩
  · unfold Dk.on; rw [h1]; rfl
  · unfold Dk.on; rw [h1, if_pos rfl]; show (D.off k t).boots + 1 = _; rw [off_boots]
theorem add_down {D : Dk} (s : List UInt8) : (D.add s).2.down = D.down ∧ (D.add s).2.boots = D.boots := by
  cases hd : D.down with
  | true => unfold Dk.add; rw [hd, if_pos rfl]; exact ⟨hd, rfl⟩
  | false =>
    rcases add_cases hd s with ⟨_, _, h⟩ | ⟨_, h⟩ | ⟨_, _, h⟩
    · rw [h]; exact ⟨hd, rfl⟩
    · rw [h]; exact ⟨hd, rfl⟩
    · rw [h]; exact ⟨hd, rfl⟩
theorem sync_down {D : Dk} : D.sync.2.down = D.down := by unfold Dk.sync; split <;> rfl

set_option maxRecDepth 100000 in
set_option maxHeartbeats 800000 in
theorem walAgain_main (a : Int) (A : Option Addr) (n cap : Nat) (cs : List Cl) (w : World) (_ : I64 a) (hv : Clls w A n cs) (hok : ∀ c ∈ cs, c.Ok) (hn : n ≤ maxLen) :
    Calls Try.prog 6 #[.int .i64 a, .slice A n cap] w fun e w' => e = .returned (.bool true) ∧ Below w.heap.size w w' := by
  cases hg : greatC cs with
  | true =>
    go_enter Try.func6, Try.ntmps6
    go_wp2_with fail
    refine (alive_any _).mono ?_
    rintro e w1 ⟨rfl, b1⟩
    go_wp2_with fail
    refine (great_any A n cap cs w1 (hv.below b1) hok hn).mono ?_
    rintro e w2 ⟨rfl, c2⟩
    rw [hg]
    go_wp2_with fail
    go_ret
    exact ⟨rfl, below_join b1 c2 b1.size⟩
  | false =>
    obtain ⟨hn40, hsml⟩ := small_ofC hg
    rw [hv.1] at hn40
    have HOK := Lib.hid (fun k (hk : k < n) => okC_at hok (k := k) (by rw [hv.1]; exact hk))
    have HV := Lib.hid (fun w1 (b1 : Below w.heap.size w w1) => hv.below b1)
    go_enter Try.func6, Try.ntmps6
    go_wp2_with fail
    refine (alive_any _).mono ?_
    rintro e w1 ⟨rfl, b1⟩
    go_wp2_with fail
    refine (great_any A n cap cs w1 (hv.below b1) hok hn).mono ?_
    rintro e w2 ⟨rfl, c2⟩
    rw [hg]
    have b2 := below_join b1 c2 b1.size
    clear c2 hv hok hg b1 hsml
    go_wp2_with fail
    refine (new_any a _).mono ?_
    rintro e w3 ⟨rfl, hD3, hb3, hs3⟩
    have ok3 := dkNew_ok a
    have hx3 : (dkNew a).xs = [] := rfl
    have hd3 : (dkNew a).down = false := rfl
    have hbo3 : (dkNew a).boots = 1 := rfl
    have b3 := below_join b2 hb3 b2.size
    clear hb3
    generalize dkNew a = D3 at *
    go_wp2_with fail
    refine (open_empty hD3 ok3 hx3 hd3 (Nat.le_refl _) (by omega)).mono ?_
    rintro e w4 ⟨A4, c4, L, v4, rfl, hL4, hG4⟩
    have b4 : Below w.heap.size w w4 := b3.trans (hG4.below' hD3 (Nat.le_refl _) b2.size (by omega))
    have hB : w.heap.size ≤ w2.heap.size := b2.size
    have hz4 : w2.heap.size ≤ w4.heap.size := by have := hG4.size; omega
    clear hG4 hD3 b3 hs3 b2
    generalize w2.heap.size = B at *
    go_wp2_with fail
    go_loopw [32] (fun i wr => ∃ (k : Nat) (v : Value) (D : Dk) (c : Nat), k ≤ n ∧ i = .int .i64 k ∧ Lg wr B L B v D c ∧ D.down = false ∧ c ≤ k ∧ D.boots ≤ 1 + k ∧ Below w.heap.size w wr ∧ B ≤ wr.heap.size) (fun i _ => n - (intOf i).toNat)
    case atStart => exact ⟨0, v4, D3, 0, by omega, rfl, hL4, hd3, by omega, by omega, b4, hz4⟩
    case round =>
      clear hL4 b4 hz4 hd3 ok3 hx3 hbo3
      obtain ⟨k, v, D, c, hk, rfl, hL, hd, hck, hbo, hb, hz⟩ := hrel
      by_cases hlt : k < n
      · obtain ⟨b, off, rfl, hbl, hcell⟩ := (HV.out _ hb).2 (by omega)
        obtain ⟨c0, c1, c2, c3⟩ := hcell k hlt
        have hok1 := HOK.out k hlt
        clear hcell
        generalize cs.getD k default = x at *
        obtain ⟨kk, ss, nn, tt⟩ := x
        have hsl : ss.length ≤ maxLen := hok1.s
        clear hok1
        simp only at c0 c1 c2 c3
        have hba : Below wr.heap.size wr (wr.alloc (.cells #[.int .i64 kk, .string ⟨ss.toArray⟩, .int .i64 nn, .int .u8 (tt.toNat : Int)] 33)) := (Below.refl _ _).alloc (Nat.le_refl _) _
        have hLa := hL.fresh hba
        have bA : Below w.heap.size w (wr.alloc (.cells #[.int .i64 kk, .string ⟨ss.toArray⟩, .int .i64 nn, .int .u8 (tt.toNat : Int)] 33)) := below_join hb hba hb.size
        have zA : B ≤ (wr.alloc (.cells #[.int .i64 kk, .string ⟨ss.toArray⟩, .int .i64 nn, .int .u8 (tt.toNat : Int)] 33)).heap.size := by simp; omega
        by_cases h0 : kk = 0
        · subst h0
          have had := add_any hLa (by omega) ss hsl zA
          have hd6 := (add_down (D := D) ss).1
          have hbo6 := (add_down (D := D) ss).2
          go_wp2_with fail
          refine had.mono ?_
          rintro e w6 ⟨rfl, v6, hL6, hM6⟩
          have b6 : Below w.heap.size w w6 := bA.trans (hM6.below hLa hB zA)
          have z6 := Nat.le_trans zA hM6.size
          clear had hba bA zA hLa
          go_wp2_with fail
          refine ⟨⟨k + 1, v6, _, _, by omega, by go_num, hL6, by rw [hd6]; exact hd, ?_, by rw [hbo6]; omega, b6, z6⟩, by simp [intOf]; omega⟩
          split <;> omega
        · by_cases h1 : kk = 1
          · subst h1
            have hfo := force_any hLa
            go_wp2_with fail
            refine hfo.mono ?_
            rintro e w6 ⟨rfl, hL6, hM6⟩
            have b6 : Below w.heap.size w w6 := bA.trans (hM6.below hLa hB zA)
            have z6 := Nat.le_trans zA hM6.size
            clear hfo hba bA zA hLa
            go_wp2_with fail
            exact ⟨⟨k + 1, v, _, _, by omega, by go_num, hL6, by rw [sync_down]; exact hd, by omega, by rw [sync_boots]; omega, b6, z6⟩, by simp [intOf]; omega⟩
          · have t0 : (kk == 0) = false := by simp; omega
            have t1 : (kk == 1) = false := by simp; omega
            by_cases h2 : kk = 2
            · subst h2
              have hof := off_any hLa.dsk hLa.ok nn tt
              obtain ⟨o1, o2, o3⟩ := off_on_down hd nn tt
              have ok6 := off_ok hL.ok nn tt
              have hb6 : (D.off nn tt).boots < 1000000 := by rw [off_boots]; omega
              go_wp2_with fail
              refine hof.mono ?_
              rintro e w6 ⟨rfl, v6, hD6, hG6⟩
              have b6 : Below w.heap.size w w6 := bA.trans (hG6.below' hLa.dsk hL.lb hB zA)
              have z6 := Nat.le_trans zA hG6.size
              have hL6 := hLa.moved hG6 hD6 ok6
              have hon := on_any hD6 hb6
              clear hof hba bA zA hLa
              go_wp2_with fail
              refine hon.mono ?_
              rintro e w7 ⟨rfl, hD7, hG7⟩
              have b7 : Below w.heap.size w w7 := b6.trans (hG7.below' hD6 hL.lb hB z6)
              have z7 := Nat.le_trans z6 hG7.size
              have hL7 := hL6.moved hG7 hD7 (on_ok ok6)
              clear hon
              go_wp2_with fail
              exact ⟨⟨k + 1, v6, _, _, by omega, by go_num, hL7, o2, by omega, by rw [o3]; omega, b7, z7⟩, by simp [intOf]; omega⟩
            · have t2 : (kk == 2) = false := by simp; omega
              go_wp2_with fail
              exact ⟨⟨k + 1, v, D, c, by omega, by go_num, hLa, hd, by omega, by omega, bA, zA⟩, by simp [intOf]; omega⟩
      · obtain rfl : n = k := by omega
        have hop := open_any hL.dsk hL.ok hd hL.lb hz
        have okc := cut_ok hL.ok hd
        have hdc : D.cut.down = false := hd
        obtain ⟨cc1, cc2⟩ := cut_cut D
        go_wp2_with fail
        refine hop.mono ?_
        rintro e w6 ⟨A6, c6, L6, v6, rfl, hO6, hL6, hG6⟩
        have b6 : Below w.heap.size w w6 := hb.trans (hG6.below' hL.dsk hL.lb hB hz)
        have z6 := Nat.le_trans hz hG6.size
        have hop2 := open_any hL6.dsk okc hdc hL.lb z6
        rw [cc1, cc2] at hop2
        have hrd := read_any hL6.dsk
        unfold Dk.read at hrd
        rw [hdc, if_neg Bool.false_ne_true] at hrd
        have hln := hO6.len
        generalize scanOf D.xs = rs at *
        generalize D.cut = E at *
        clear hop
        go_wp2_with fail
        refine hrd.mono ?_
        rintro e w7 ⟨rfl, rfl⟩
        go_wp2_with fail
        refine hop2.mono ?_
        rintro e w8 ⟨A8, c8, L8, v8, rfl, hO8, hL8, hG8⟩
        have b8 : Below w.heap.size w w8 := b6.trans (hG8.below' hL6.dsk hL.lb hB z6)
        have hO6' := hO6.moved hL6 (Moved.of_disk hG8)
        have hL6' := hL6.moved hG8 hL8.dsk okc
        obtain ⟨_, _, _, ln1, ln2⟩ := hln
        have hsame := same_any A6 rs.length c6 _ A8 rs.length c8 _ w8 hO6'.strs hO8.strs (by omega) (by omega) rfl
        clear hop2 hrd hG8 hG6 hO6 hO8 hO6' hL6
        go_wp2_with fail
        refine hsame.mono ?_
        rintro e w9 ⟨rfl, k9⟩
        have hLb := hL8.still k9
        have hLa := hL6'.still k9
        have b9 := b8.trans (k9.below w.heap.size)
        have hrd := read_any hLb.dsk
        unfold Dk.read at hrd
        rw [hdc, if_neg Bool.false_ne_true] at hrd
        clear hsame hL8 hL6' b8
        go_wp2_with fail
        refine hrd.mono ?_
        rintro e w10 ⟨rfl, rfl⟩
        go_wp2_with fail
        refine (len_any hLa).mono ?_
        rintro e w10 ⟨rfl, rfl⟩
        go_wp2_with fail
        refine (len_any hLb).mono ?_
        rintro e w10 ⟨rfl, rfl⟩
        have hra := room_any hLa
        have hrb := fun w' (k : Still w9 w') => room_any (hLb.still k)
        generalize E.size - E.xs.length = R at *
        go_wp2_with fail
        refine hra.mono ?_
        rintro e w10 ⟨rfl, m, rfl⟩
        go_wp2_with fail
        refine (hrb _ (Still.drewN _ _)).mono ?_
        rintro e w11 ⟨rfl, m2, rfl⟩
        go_wp2_with fail
        go_ret
        exact ⟨rfl, b9.trans ((Still.drewN w9 (m + m2)).below _)⟩
end Go.Proofs.Ytmdoicemkddpgaa
