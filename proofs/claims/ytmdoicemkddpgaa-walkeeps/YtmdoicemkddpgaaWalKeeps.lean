/- The walk of the law WalKeeps. -/
import Derived.Test.YtmdoicemkddpgaaWalU
import Derived.Test.YtmdoicemkddpgaaCaps
namespace Go.Proofs.Ytmdoicemkddpgaa
open Go.RowKit

def sumL (ss : List (List UInt8)) : Nat := (ss.map List.length).sum
theorem sumL_take {ss : List (List UInt8)} {k : Nat} (h : k < ss.length) : sumL (ss.take (k + 1)) = sumL (ss.take k) + (ss.getD k []).length := by
  unfold sumL
  rw [List.take_succ_eq_append_getElem h, List.map_append, List.sum_append, List.getD_eq_getElem?_getD, List.getElem?_eq_getElem h]
  simp
theorem sumL_le {ss : List (List UInt8)} {k : Nat} (hk : k ≤ ss.length) (h : ∀ j, j < k → (ss.getD j []).length ≤ 4096) : sumL (ss.take k) ≤ 4096 * k := by
  induction k with
  | zero => simp [sumL]
  | succ k ih =>
    rw [sumL_take (by omega)]
    have := ih (by omega) (fun j hj => h j (by omega))
    have := h k (by omega)
    omega
theorem took_sum (ss : List (List UInt8)) : took ss = sumL ss + 6 * ss.length := by
  unfold took sumL
  induction ss with
  | nil => rfl
  | cons s ss ih => simp at ih ⊢; omega
theorem sumL_take_le (ss : List (List UInt8)) (k : Nat) : sumL (ss.take k) ≤ sumL ss := by
  have e : sumL ss = sumL (ss.take k) + sumL (ss.drop k) := by
    unfold sumL
    rw [← List.sum_append, ← List.map_append, List.take_append_drop]
  omega
theorem take_next {ss : List (List UInt8)} {k : Nat} (h : k < ss.length) : ss.take (k + 1) = ss.take k ++ [ss.getD k []] := by
  rw [List.take_succ_eq_append_getElem h, List.getD_eq_getElem?_getD, List.getElem?_eq_getElem h]
  rfl
theorem turned_take {xs : List UInt8} {n : Nat} {t : UInt8} (h : n ≤ xs.length) : (turned xs n t).take (n - 1) = xs.take (n - 1) := by
  unfold turned
  exact List.take_left' (by rw [List.length_take]; omega)

/-- What is opened behind a failure of the power. -/
theorem keeps_off {D : Dk} {ss : List (List UInt8)} {F : Nat} (hx : D.xs = frames ss) (hs : D.safe = took (ss.take F)) (hF : F ≤ ss.length) (hd : D.down = false) (hsm : ∀ r ∈ ss, r.length < 65536) (k0 : Int) (t : UInt8) (ok : D.Ok) :
    ∃ j, j ≤ ss.length ∧ F ≤ j ∧ scanOf (D.off k0 t).on.xs = ss.take j := by
  have hon : (D.off k0 t).on.xs = (D.off k0 t).xs := by unfold Dk.on; split <;> rfl
  rw [hon]
  have hl : D.xs.length = took ss := by rw [hx, frames_length]
  have hsafe := ok.safe
  have hkl := kept_le D k0
  have e : (D.off k0 t).xs = if D.kept k0 = 0 then D.xs.take D.safe else turned D.xs (D.safe + D.kept k0) t := by unfold Dk.off; rw [hd, if_neg Bool.false_ne_true]
  have key : ∀ s : List UInt8, s.length ≤ took ss → s.take (s.length - 1) = D.xs.take (s.length - 1) → D.safe ≤ s.length → s.take D.safe = D.xs.take D.safe → ∃ j, j ≤ ss.length ∧ F ≤ j ∧ scanOf s = ss.take j := fun s h1 h2 h3 h4 => by
    rw [hx] at h2 h4
    rw [hs] at h3 h4
    obtain ⟨j, j1, j2, j3⟩ := scanOf_torn ss hsm s h1 h2
    exact ⟨j, j1, j3 F hF h3 h4, j2⟩
  rw [e]
  split
  · have hlt : (D.xs.take D.safe).length = D.safe := by rw [List.length_take]; omega
    refine key _ (by omega) ?_ (by omega) ?_
    · rw [hlt, List.take_take, Nat.min_eq_left (by omega)]
    · rw [List.take_take, Nat.min_self]
  · rename_i h0
    have hlt := turned_length (xs := D.xs) (n := D.safe + D.kept k0) t (by omega) (by omega)
    have ht : (turned D.xs (D.safe + D.kept k0) t).take (D.safe + D.kept k0 - 1) = D.xs.take (D.safe + D.kept k0 - 1) := turned_take (by omega)
    refine key _ (by omega) (by rw [hlt]; exact ht) (by omega) (take_agree ht (by omega))

set_option maxRecDepth 100000 in
set_option maxHeartbeats 800000 in
theorem walKeeps_main (A : Option Addr) (n cap : Nat) (ss : List (List UInt8)) (f k0 : Int) (t : UInt8) (w : World) (hS : Strs w A n ss) (hL : ∀ s ∈ ss, s.length ≤ maxLen) (hn : n ≤ maxLen) (hcap : n ≤ cap) (_ : I64 f) (_ : I64 k0) :
    Calls Try.prog 5 #[.slice A n cap, .int .i64 f, .int .i64 k0, .int .u8 (t.toNat : Int)] w fun e w' => e = .returned (.bool true) ∧ Below w.heap.size w w' := by
  unfold maxLen at hn
  have hSl := hS.1
  have hLk : ∀ k, k < n → (ss.getD k []).length ≤ 9223372036854775807 := fun k hk => by
    have := hL (ss.getD k []) (by rw [List.getD_eq_getElem?_getD, List.getElem?_eq_getElem (by omega)]; exact List.getElem_mem _)
    unfold maxLen at this
    omega
  have HLk := Lib.hid hLk
  have HS := Lib.hid (fun w1 (b1 : Below w.heap.size w w1) => (show Strs w1 A n ss from ⟨hS.1, fun h0 => by
    obtain ⟨b, off, h1, h2, h3⟩ := hS.2 h0
    exact ⟨b, off, h1, Nat.lt_of_lt_of_le h2 b1.size, fun j hj => (b1.cell (p := ⟨b, off + j, none⟩) h2).trans (h3 j hj)⟩⟩))
  clear hLk hL hS
  have HSl := Lib.hid hSl
  clear hSl
  go_enter Try.func5, Try.ntmps5
  go_wp2_with fail
  refine (alive_any _).mono ?_
  rintro e w1 ⟨rfl, b1⟩
  go_wp2_with fail
  go_loopw [9, 24] (fun acc i wr => ∃ (k : Nat) (z : Int), k ≤ n ∧ i = .int .i64 k ∧ acc = .int .i64 z ∧ Hid (k ≤ 40 → z = (sumL (ss.take k) : Int)) ∧ Hid (∀ j, j < k → (ss.getD j []).length ≤ 4096) ∧ wr = w1) (fun _ i _ => n - (intOf i).toNat)
  case atStart => exact ⟨0, 0, by omega, rfl, rfl, fun _ => by simp [sumL], fun j hj => by omega, rfl⟩
  case round =>
    obtain ⟨k, z, hk, rfl, rfl, hz, hsm, rfl⟩ := hrel
    by_cases hlt : k < n
    · obtain ⟨b, off, rfl, hbl, hcell⟩ := (HS.out _ b1).2 (by omega)
      have q0 := hcell k hlt
      have hl := HLk.out k hlt
      have hT := sumL_take (ss := ss) (k := k) (by rw [HSl.out]; exact hlt)
      have hsum := sumL_le (ss := ss) (k := k) (by rw [HSl.out]; exact hk) hsm.out
      have HT := Lib.hid hT
      have HM := Lib.hid hsum
      clear hcell hT hsum
      obtain ⟨x, hx⟩ : ∃ x, ss.getD k [] = x := ⟨_, rfl⟩
      rw [hx] at q0 hl HT
      have HX := Lib.hid hx
      clear hx
      by_cases hg : 4096 < x.length
      · have hg' : decide ((4096 : Int) < (x.length : Int)) = true := by simp; omega
        go_wp2_with fail
        go_ret
        exact ⟨rfl, b1⟩
      · have hg' : decide ((4096 : Int) < (x.length : Int)) = false := by simp; omega
        have hg2 : ¬ (4096 : Int) < (x.length : Int) := by omega
        go_wp2_with fail
        refine ⟨⟨k + 1, _, by omega, by go_num, rfl, ?_, ?_, trivial⟩, by simp [intOf]; omega⟩
        · intro h40
          have e := hz.out (by omega)
          have e2 := HT.out
          have e3 := HM.out
          rw [e, e2]
          unfold wrap64
          omega
        · intro j hj
          by_cases hjk : j = k
          · subst hjk
            rw [HX.out]
            omega
          · exact hsm.out j (by omega)
    · obtain rfl : n = k := by omega
      by_cases h40 : 40 < n
      · have h40' : decide ((40 : Int) < (n : Int)) = true := by simp; omega
        go_wp2_with fail
        go_ret
        exact ⟨rfl, b1⟩
      · have hze := hz.out (by omega)
        rw [List.take_of_length_le (by rw [HSl.out]; exact Nat.le_refl _)] at hze
        have h40' : decide ((40 : Int) < (n : Int)) = false := by simp; omega
        have h402 : ¬ (40 : Int) < (n : Int) := by omega
        obtain ⟨Z, hZ⟩ : ∃ Z, sumL ss = Z := ⟨_, rfl⟩
        rw [hZ] at hze
        have HZ := Lib.hid hZ
        clear hZ
        subst hze
        by_cases h81 : 8192 < Z
        · have h81' : decide ((8192 : Int) < (Z : Int)) = true := by simp; omega
          go_wp2_with fail
          go_ret
          exact ⟨rfl, b1⟩
        · have h81' : decide ((8192 : Int) < (Z : Int)) = false := by simp; omega
          have h812 : ¬ (8192 : Int) < (Z : Int) := by omega
          by_cases hf0 : f < 0
          · have hf0' : decide (f < 0) = true := by simp; omega
            go_wp2_with fail
            go_ret
            exact ⟨rfl, b1⟩
          · have hf0' : decide (f < 0) = false := by simp; omega
            by_cases hfn : (n : Int) < f
            · have hfn' : decide ((n : Int) < f) = true := by simp; omega
              go_wp2_with fail
              go_ret
              exact ⟨rfl, b1⟩
            · have hfn' : decide ((n : Int) < f) = false := by simp; omega
              obtain ⟨F, rfl⟩ : ∃ F : Nat, f = (F : Int) := ⟨f.toNat, by omega⟩
              have hFn : F ≤ n := by omega
              go_wp2_with fail
              refine (new_any 65536 _).mono ?_
              rintro e w2 ⟨rfl, hD2, hb2, hs2⟩
              have ok2 := dkNew_ok 65536
              have hx2 : (dkNew 65536).xs = [] := rfl
              have hd2 : (dkNew 65536).down = false := rfl
              have hf2 : (dkNew 65536).safe = 0 := rfl
              have hz2 : (dkNew 65536).size = 65536 := rfl
              have hbo2 : (dkNew 65536).boots = 1 := rfl
              have b2 := below_join b1 hb2 b1.size
              clear hb2
              generalize dkNew 65536 = D2 at *
              go_wp2_with fail
              refine (open_empty hD2 ok2 hx2 hd2 (Nat.le_refl _) (by omega)).mono ?_
              rintro e w3 ⟨A3, c3, L, v3, rfl, hL3, hG3⟩
              have b3 : Below w.heap.size w w3 := b2.trans (hG3.below' hD2 (Nat.le_refl _) b1.size (by omega))
              have hB : w.heap.size ≤ wr.heap.size := b1.size
              have hz3 : wr.heap.size ≤ w3.heap.size := by have := hG3.size; omega
              clear hG3 hD2 b2 hs2
              obtain ⟨B, hBe⟩ : ∃ B, wr.heap.size = B := ⟨_, rfl⟩
              rw [hBe] at hB hz3 hL3 ⊢
              clear hBe
              have hsz : ∀ k, k ≤ n → took (ss.take k) ≤ 8432 := fun k hk => by
                have h1 := sumL_take_le ss k
                have h2 := HZ.out
                have h3 : (ss.take k).length ≤ k := by rw [List.length_take]; omega
                rw [took_sum]
                omega
              have HSZ := Lib.hid hsz
              have hall : ∀ r ∈ ss, r.length < 65536 := fun r hr => by
                obtain ⟨i, hi, rfl⟩ := List.getElem_of_mem hr
                have := hsm.out i (by rw [← HSl.out]; exact hi)
                rw [List.getD_eq_getElem?_getD, List.getElem?_eq_getElem hi] at this
                simp at this
                omega
              have HALL := Lib.hid hall
              clear hsz hall hz
              go_wp2_with fail
              go_loopw [64] (fun i wr => ∃ (k : Nat) (v : Value) (D : Dk) (c : Nat), k ≤ n ∧ i = .int .i64 k ∧ Lg wr B L B v D c ∧ D.down = false ∧ c ≤ k ∧ Hid (D.size = 65536 ∧ D.boots = 1 ∧ D.xs = frames (ss.take k) ∧ D.safe = if F ≤ k then took (ss.take F) else 0) ∧ Below w.heap.size w wr ∧ B ≤ wr.heap.size) (fun i _ => n - (intOf i).toNat)
              case atStart =>
                refine ⟨0, v3, D2, 0, by omega, rfl, hL3, hd2, by omega, ⟨hz2, hbo2, hx2, ?_⟩, b3, hz3⟩
                rw [hf2]
                split
                · rename_i h0
                  obtain rfl : F = 0 := by omega
                  rfl
                · rfl
              case round =>
                clear hL3 b3 hz3 hd2 ok2 hx2 hf2 hz2 hbo2
                obtain ⟨k, v, D, c, hk, rfl, hL, hd, hck, hH, hb, hz⟩ := hrel
                by_cases hlt : k < n
                · obtain ⟨b, off, rfl, hbl, hcell⟩ := (HS.out _ hb).2 (by omega)
                  have q0 := hcell k hlt
                  have hl := hsm.out k hlt
                  have hnx := take_next (ss := ss) (k := k) (by rw [HSl.out]; exact hlt)
                  have htk := HSZ.out (k + 1) (by omega)
                  obtain ⟨x, hx⟩ : ∃ x, ss.getD k [] = x := ⟨_, rfl⟩
                  rw [hx] at q0 hl hnx
                  have htk' := htk
                  rw [hnx, took_snoc] at htk'
                  have hxl : D.xs.length = took (ss.take k) := by rw [hH.out.2.2.1, frames_length]
                  have had := add_any hL (by omega) x (by unfold maxLen; omega) hz
                  have h3 := add_fits (s := x) hd (by omega) (by have := hH.out.1; omega)
                  rw [h3] at had
                  simp only [if_true] at had
                  have HN := Lib.hid hnx
                  have hD' : ({ D with xs := D.xs ++ frameOf x } : Dk).xs = frames (ss.take (k + 1)) := by
                    rw [hnx, frames_snoc]
                    exact congrArg (· ++ frameOf x) hH.out.2.2.1
                  have HD' := Lib.hid hD'
                  clear hcell hx hnx htk htk' hxl h3 hD'
                  by_cases hf : k + 1 = F
                  · have hf1 : (((k : Int) + 1) == (F : Int)) = true := by simp; omega
                    have hf2 : (k : Int) + 1 = (F : Int) := by omega
                    have HF := Lib.hid hf
                    clear hf
                    go_wp2_with fail
                    refine had.mono ?_
                    rintro e w6 ⟨rfl, v6, hL6, hM6⟩
                    have b6 : Below w.heap.size w w6 := hb.trans (hM6.below hL hB hz)
                    have z6 := Nat.le_trans hz hM6.size
                    have hfo := force_any hL6
                    have hsy : ({ D with xs := D.xs ++ frameOf x } : Dk).sync = (0, { D with xs := D.xs ++ frameOf x, safe := (D.xs ++ frameOf x).length }) := by
                      unfold Dk.sync
                      simp only [hd]
                      rfl
                    rw [hsy] at hfo
                    go_wp2_with fail
                    refine hfo.mono ?_
                    rintro e w7 ⟨rfl, hL7, hM7⟩
                    have b7 : Below w.heap.size w w7 := b6.trans (hM7.below hL6 hB z6)
                    go_wp2_with fail
                    refine ⟨⟨k + 1, v6, _, _, by omega, by go_num, hL7, hd, by omega, ⟨hH.out.1, hH.out.2.1, HD'.out, ?_⟩, b7, Nat.le_trans z6 hM7.size⟩, by simp [intOf]; omega⟩
                    rw [if_pos (by rw [HF.out]; exact Nat.le_refl _)]
                    have e2 : (D.xs ++ frameOf x).length = (frames (ss.take (k + 1))).length := congrArg List.length HD'.out
                    show (D.xs ++ frameOf x).length = _
                    rw [e2, frames_length, HF.out]
                  · have hf1 : (((k : Int) + 1) == (F : Int)) = false := by simp; omega
                    have hf2 : ¬ (k : Int) + 1 = (F : Int) := by omega
                    go_wp2_with fail
                    refine had.mono ?_
                    rintro e w6 ⟨rfl, v6, hL6, hM6⟩
                    have b6 : Below w.heap.size w w6 := hb.trans (hM6.below hL hB hz)
                    have z6 := Nat.le_trans hz hM6.size
                    go_wp2_with fail
                    refine ⟨⟨k + 1, v6, _, _, by omega, by go_num, hL6, hd, by omega, ⟨hH.out.1, hH.out.2.1, HD'.out, ?_⟩, b6, z6⟩, by simp [intOf]; omega⟩
                    have := hH.out.2.2.2
                    show D.safe = _
                    rw [this]
                    by_cases hFk : F ≤ k
                    · rw [if_pos hFk, if_pos (by omega)]
                    · rw [if_neg hFk, if_neg (by omega)]
                · obtain rfl : n = k := by omega
                  have hxs : D.xs = frames ss := by have := hH.out.2.2.1; rw [List.take_of_length_le (by rw [HSl.out]; exact Nat.le_refl _)] at this; exact this
                  have hsf : D.safe = took (ss.take F) := by have := hH.out.2.2.2; rw [if_pos hFn] at this; exact this
                  obtain ⟨j, j1, j2, j3⟩ := keeps_off hxs hsf (by rw [HSl.out]; exact hFn) hd HALL.out k0 t hL.ok
                  rw [HSl.out] at j1
                  have hof := off_any hL.dsk hL.ok k0 t
                  have ok6 := off_ok hL.ok k0 t
                  have hbo6 : (D.off k0 t).boots < 1000000 := by rw [off_boots, hH.out.2.1]; omega
                  have hdn7 : (D.off k0 t).on.down = false := by
                    have : (D.off k0 t).down = true := by unfold Dk.off; rw [hd]; rfl
                    unfold Dk.on
                    rw [this]
                    rfl
                  have ok7 := on_ok ok6
                  clear hxs hsf
                  generalize D.off k0 t = D6 at *
                  go_wp2_with fail
                  refine hof.mono ?_
                  rintro e w6 ⟨rfl, v6, hD6, hG6⟩
                  have b6 : Below w.heap.size w w6 := hb.trans (hG6.below' hL.dsk hL.lb hB hz)
                  have z6 := Nat.le_trans hz hG6.size
                  have hon := on_any hD6 hbo6
                  generalize D6.on = D7 at *
                  go_wp2_with fail
                  refine hon.mono ?_
                  rintro e w7 ⟨rfl, hD7, hG7⟩
                  have b7 : Below w.heap.size w w7 := b6.trans (hG7.below' hD6 hL.lb hB z6)
                  have z7 := Nat.le_trans z6 hG7.size
                  have hop := open_any hD7 ok7 hdn7 hL.lb z7
                  have hlj : (ss.take j).length = j := by rw [List.length_take, HSl.out]; omega
                  simp only [j3, hlj] at hop
                  go_wp2_with fail
                  refine hop.mono ?_
                  rintro e w8 ⟨A8, c8, L8, v8, rfl, hO8, hL8, hG8⟩
                  have b8 : Below w.heap.size w w8 := b7.trans (hG8.below' hD7 hL.lb hB z7)
                  have hS8 := HS.out _ b8
                  have hSj : Strs w8 A j (ss.take j) := ⟨hlj, fun h0 => by
                    obtain ⟨b, off, h1, h2, h3⟩ := hS8.2 (by omega)
                    refine ⟨b, off, h1, h2, fun i hi => ?_⟩
                    rw [h3 i (by omega), List.getD_eq_getElem?_getD, List.getD_eq_getElem?_getD, List.getElem?_take, if_pos hi]⟩
                  have hsame := same_any A8 j c8 _ A j cap _ w8 hO8.strs hSj (by unfold maxLen; omega) (by unfold maxLen; omega) rfl
                  clear hop hon hof hS8 hO8 hL8 hG8 hSj hlj j3 hG7 hG6 hD6 hD7 ok6 ok7 hbo6 hdn7 hH hL
                  have t1 : decide ((F : Int) ≤ (j : Int)) = true := by simp; omega
                  have t2 : decide ((j : Int) ≤ (n : Int)) = true := by simp; omega
                  have t3 : j ≤ cap := by omega
                  go_wp2_with fail
                  refine hsame.mono ?_
                  rintro e w9 ⟨rfl, k9⟩
                  go_wp2_with fail
                  go_ret
                  exact ⟨rfl, b8.trans (k9.below _)⟩
end Go.Proofs.Ytmdoicemkddpgaa
