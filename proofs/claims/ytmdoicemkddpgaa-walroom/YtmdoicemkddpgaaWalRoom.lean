/- The walk of the law WalRoom. -/
import Derived.Test.YtmdoicemkddpgaaWalU
namespace Go.Proofs.Ytmdoicemkddpgaa
open Go.RowKit

set_option maxRecDepth 100000 in
set_option maxHeartbeats 800000 in
theorem walRoom_main (a : Int) (A : Option Addr) (n cap : Nat) (ss : List (List UInt8)) (w : World) (_ : I64 a) (hS : Strs w A n ss) (hL : ∀ s ∈ ss, s.length ≤ maxLen) (hn : n ≤ maxLen) :
    Calls Try.prog 7 #[.int .i64 a, .slice A n cap] w fun e w' => e = .returned (.bool true) ∧ Below w.heap.size w w' := by
  unfold maxLen at hn
  have hSl := hS.1
  have hLk : ∀ k, k < n → (ss.getD k []).length ≤ 9223372036854775807 := fun k hk => by
    have := hL (ss.getD k []) (by rw [List.getD_eq_getElem?_getD, List.getElem?_eq_getElem (by omega)]; exact List.getElem_mem _)
    unfold maxLen at this
    omega
  have HLk := Lib.hid hLk
  have HS := Lib.hid (fun w1 (b1 : Below w.heap.size w w1) => (show Strs w1 A n ss from ⟨hS.1, fun h0 => by
    obtain ⟨b, off, h1, h2, h3⟩ := hS.2 h0
    exact ⟨b, off, h1, Nat.lt_of_lt_of_le h2 b1.size, fun j hj => (b1.cell (p := ⟨b, off + j, none⟩) h2).trans (h3 j hj)⟩⟩))
  clear hLk hL hS hSl
  go_enter Try.func7, Try.ntmps7
  go_wp2_with fail
  refine (alive_any _).mono ?_
  rintro e w1 ⟨rfl, b1⟩
  go_wp2_with fail
  go_loopw [5, 23] (fun acc i wr => ∃ (k : Nat) (z : Int), k ≤ n ∧ i = .int .i64 k ∧ acc = .int .i64 z ∧ 0 ≤ z ∧ z ≤ 262144 ∧ wr = w1) (fun _ i _ => n - (intOf i).toNat)
  case atStart => exact ⟨0, 0, by omega, rfl, rfl, by omega, by omega, rfl⟩
  case round =>
    obtain ⟨k, z, hk, rfl, rfl, hz0, hz1, rfl⟩ := hrel
    by_cases hlt : k < n
    · obtain ⟨b, off, rfl, hbl, hcell⟩ := (HS.out _ b1).2 (by omega)
      have q0 := hcell k hlt
      have hl := HLk.out k hlt
      clear hcell
      generalize ss.getD k [] = x at *
      by_cases hg : 131072 < x.length
      · have hg' : decide ((131072 : Int) < (x.length : Int)) = true := by simp; omega
        go_wp2_with fail
        all_goals
          go_ret
          exact ⟨rfl, b1⟩
      · have hg' : decide ((131072 : Int) < (x.length : Int)) = false := by simp; omega
        have hg2 : ¬ (131072 : Int) < (x.length : Int) := by omega
        by_cases hz : 262144 < z + x.length
        · have hz' : decide ((262144 : Int) < z + (x.length : Int)) = true := by simp; omega
          go_wp2_with fail
          all_goals
            go_ret
            exact ⟨rfl, b1⟩
        · have hz' : decide ((262144 : Int) < z + (x.length : Int)) = false := by simp; omega
          have hz2 : ¬ (262144 : Int) < z + (x.length : Int) := by omega
          go_wp2_with fail
          exact ⟨⟨k + 1, z + x.length, by omega, by go_num, by go_num, by omega, by omega, trivial⟩, by simp [intOf]; omega⟩
    · obtain rfl : n = k := by omega
      by_cases h40 : 40 < n
      · have h40' : decide ((40 : Int) < (n : Int)) = true := by simp; omega
        go_wp2_with fail
        go_ret
        exact ⟨rfl, b1⟩
      · have h40' : decide ((40 : Int) < (n : Int)) = false := by simp; omega
        have h402 : ¬ (40 : Int) < (n : Int) := by omega
        clear hz0 hz1
        go_wp2_with fail
        refine (new_any a _).mono ?_
        rintro e w2 ⟨rfl, hD2, hb2, hs2⟩
        have ok2 := dkNew_ok a
        have hx2 : (dkNew a).xs = [] := rfl
        have hd2 : (dkNew a).down = false := rfl
        have b2 := below_join b1 hb2 b1.size
        clear hb2
        generalize dkNew a = D2 at *
        go_wp2_with fail
        refine (open_empty hD2 ok2 hx2 hd2 (Nat.le_refl _) (by omega)).mono ?_
        rintro e w3 ⟨A3, c3, L, v3, rfl, hL3, hG3⟩
        have b3 : Below w.heap.size w w3 := b2.trans (hG3.below' hD2 (Nat.le_refl _) b1.size (by omega))
        have hB : w.heap.size ≤ wr.heap.size := b1.size
        have hz3 : wr.heap.size ≤ w3.heap.size := by have := hG3.size; omega
        clear hG3 hD2 b2 hs2
        obtain ⟨B, hBe⟩ : ∃ B, wr.heap.size = B := ⟨_, rfl⟩
        rw [hBe] at hB hz3 hL3 ⊢
        clear hBe
        go_wp2_with fail
        go_loopw [12, 52] (fun u i wr => ∃ (k : Nat) (v : Value) (D : Dk) (c : Nat) (ws : List (List UInt8)), k ≤ n ∧ i = .int .i64 k ∧ Lg wr B L B v D c ∧ D.down = false ∧ c ≤ k ∧ OwnsS wr B u ws ∧ ws.length ≤ k ∧ Hid (D.xs = frames ws ∧ ∀ r ∈ ws, r.length < 65536) ∧ Below w.heap.size w wr ∧ B ≤ wr.heap.size) (fun _ i _ => n - (intOf i).toNat)
        case atStart => exact ⟨0, v3, D2, 0, [], by omega, rfl, hL3, hd2, by omega, OwnsS.nil _ _, by simp, ⟨hx2, by simp⟩, b3, hz3⟩
        case round =>
          clear hL3 b3 hz3 hd2 ok2 hx2
          obtain ⟨k, v, D, c, ws, hk, rfl, hL, hd, hck, hO, hwk, hH, hb, hz⟩ := hrel
          by_cases hlt : k < n
          · obtain ⟨b, off, rfl, hbl, hcell⟩ := (HS.out _ hb).2 (by omega)
            have q0 := hcell k hlt
            have hl := HLk.out k hlt
            clear hcell
            generalize ss.getD k [] = x at *
            have hrd := read_any hL.dsk
            unfold Dk.read at hrd
            rw [hd, if_neg Bool.false_ne_true] at hrd
            have had := add_any hL (by omega) x (by unfold maxLen; omega) hz
            obtain ⟨A5, c5, rfl, _, _⟩ := hO.len
            rcases add_cases hd x with ⟨h1, h2, h3⟩ | h3
            · rw [h3] at had
              simp only [if_true] at had
              go_wp2_with fail
              refine hrd.mono ?_
              rintro e w5 ⟨rfl, rfl⟩
              go_wp2_with fail
              refine had.mono ?_
              rintro e w6 ⟨rfl, v6, hL6, hM6⟩
              have hO6 := hO.moved hL hM6
              have b6 : Below w.heap.size w w6 := hb.trans (hM6.below hL hB hz)
              have z6 := Nat.le_trans hz hM6.size
              go_wp2_with (at_builtin; refine OwnsS.append_op rfl _ _ 28 rfl Try.underlying28 hO6 x 9 rfl rfl (by omega) z6 ?_)
              intro v7 w7 hO7 g7 c7 hv7 hG7
              subst hv7
              have hL7 := hL6.grown hO6 hG7.grown
              have b7 : Below w.heap.size w w7 := belowS b6 hO6 hB (Nat.le_trans hB z6) hG7.grown
              go_wp2_with fail
              refine ⟨⟨k + 1, v6, _, _, ws ++ [x], by omega, by go_num, hL7, hd, by omega, hO7, by simp; omega, ⟨?_, ?_⟩, b7, Nat.le_trans z6 hG7.grown.size⟩, by simp [intOf]; omega⟩
              · rw [frames_snoc]
                exact congrArg (· ++ frameOf x) hH.out.1
              · intro r hr
                rcases List.mem_append.1 hr with hr | hr
                · exact hH.out.2 r hr
                · obtain rfl : r = x := by simpa using hr
                  omega
            · obtain ⟨e0, he0, h3⟩ : ∃ e0 : Nat, e0 ≠ 0 ∧ D.add x = (e0, D) := by
                rcases h3 with ⟨_, h3⟩ | ⟨_, _, h3⟩
                · exact ⟨3, by omega, h3⟩
                · exact ⟨6, by omega, h3⟩
              rw [h3] at had
              simp only [if_neg he0] at had
              have he1 : ((e0 : Int) == 0) = false := by simp; omega
              have he2 : ¬ (e0 : Int) = 0 := by omega
              go_wp2_with fail
              refine hrd.mono ?_
              rintro e w5 ⟨rfl, rfl⟩
              go_wp2_with fail
              refine had.mono ?_
              rintro e w6 ⟨rfl, v6, hL6, hM6⟩
              have hO6 := hO.moved hL hM6
              have b6 : Below w.heap.size w w6 := hb.trans (hM6.below hL hB hz)
              have z6 := Nat.le_trans hz hM6.size
              have hrd6 := read_any hL6.dsk
              unfold Dk.read at hrd6
              rw [hd, if_neg Bool.false_ne_true] at hrd6
              go_wp2_with fail
              refine hrd6.mono ?_
              rintro e w7 ⟨rfl, rfl⟩
              go_wp2_with fail
              exact ⟨⟨k + 1, v6, D, c, ws, by omega, by go_num, hL6, hd, by omega, hO6, by omega, hH, b6, z6⟩, by simp [intOf]; omega⟩
          · obtain rfl : n = k := by omega
            have hop := open_any hL.dsk hL.ok hd hL.lb hz
            have hsc : scanOf D.xs = ws := by rw [hH.out.1]; exact scanOf_whole hH.out.2
            rw [hsc] at hop
            obtain ⟨A5, c5, rfl, _, _⟩ := hO.len
            go_wp2_with fail
            refine hop.mono ?_
            rintro e w6 ⟨A6, c6, L6, v6, rfl, hO6, hL6, hG6⟩
            have b6 : Below w.heap.size w w6 := hb.trans (hG6.below' hL.dsk hL.lb hB hz)
            have hO5 := hO.moved hL (Moved.of_disk hG6)
            go_wp2_with fail
            refine (same_any A6 _ c6 _ A5 _ c5 _ _ hO6.strs hO5.strs (by unfold maxLen; omega) (by unfold maxLen; omega) rfl).mono ?_
            rintro e w7 ⟨rfl, k7⟩
            go_wp2_with fail
            go_ret
            exact ⟨rfl, b6.trans (k7.below _)⟩
end Go.Proofs.Ytmdoicemkddpgaa
