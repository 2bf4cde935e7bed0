/- The walks of the laws' helpers of layer 6: great, alive. -/
import Derived.Test.YtmdoicemkddpgaaWalC
import Derived.Test.YtmdoicemkddpgaaWalR
import Derived.Test.YtmdoicemkddpgaaCallOpen
namespace Go.Proofs.Ytmdoicemkddpgaa
open Go.RowKit

/-- More than is played? -/
def sumS (cs : List Cl) : Nat := (cs.map fun c => c.s.length).sum
def greatC (cs : List Cl) : Bool := cs.any (fun c => decide (131072 < c.s.length)) || decide (40 < cs.length) || decide (262144 < sumS cs)
theorem greatC_at {cs : List Cl} {k : Nat} (hk : k < cs.length) (h : 131072 < (cs.getD k default).s.length) : greatC cs = true := by
  have hm : cs.getD k default ∈ cs := by rw [List.getD_eq_getElem?_getD, List.getElem?_eq_getElem hk]; exact List.getElem_mem hk
  unfold greatC
  rw [List.any_eq_true.2 ⟨_, hm, by simpa using h⟩]
  rfl
theorem greatC_end {cs : List Cl} (h : ∀ j, j < cs.length → (cs.getD j default).s.length ≤ 131072) : greatC cs = (decide (40 < cs.length) || decide (262144 < sumS cs)) := by
  have e : cs.any (fun c => decide (131072 < c.s.length)) = false := by
    rw [List.any_eq_false]
    intro c hc
    obtain ⟨i, hi, rfl⟩ := List.getElem_of_mem hc
    have := h i hi
    rw [List.getD_eq_getElem?_getD, List.getElem?_eq_getElem hi] at this
    simp at this ⊢
    exact this
  unfold greatC
  rw [e]
  rfl
theorem small_ofC {cs : List Cl} (h : greatC cs = false) : cs.length ≤ 40 ∧ ∀ c ∈ cs, c.s.length ≤ 131072 := by
  unfold greatC at h
  simp only [Bool.or_eq_false_iff, List.any_eq_false, decide_eq_true_eq, decide_eq_false_iff_not] at h
  exact ⟨by omega, fun c hc => by have := h.1.1 c hc; omega⟩
theorem sumS_take {cs : List Cl} {k : Nat} (h : k < cs.length) : sumS (cs.take (k + 1)) = sumS (cs.take k) + (cs.getD k default).s.length := by
  unfold sumS
  rw [List.take_succ_eq_append_getElem h, List.map_append, List.sum_append, List.getD_eq_getElem?_getD, List.getElem?_eq_getElem h]
  simp
theorem sumS_le {cs : List Cl} (h : ∀ j, j < cs.length → (cs.getD j default).s.length ≤ 131072) : sumS cs ≤ 131072 * cs.length := by
  induction cs with
  | nil => simp [sumS]
  | cons c r ih =>
    have h0 := h 0 (by simp)
    have h1 := ih (fun j hj => by have := h (j + 1) (by simp; omega); simpa using this)
    simp [sumS] at h0 h1 ⊢
    omega
theorem ret_bool {a b : Bool} (h : a = b) : Ending.returned (.bool a) = .returned (.bool b) := by rw [h]
theorem okC_at {cs : List Cl} (h : ∀ c ∈ cs, c.Ok) {k : Nat} (hk : k < cs.length) : (cs.getD k default).Ok := by
  rw [List.getD_eq_getElem?_getD, List.getElem?_eq_getElem hk]
  exact h _ (List.getElem_mem hk)

set_option maxRecDepth 100000 in
set_option maxHeartbeats 1400000 in
theorem great_any (A : Option Addr) (n cap : Nat) (cs : List Cl) (w : World) (hv : Clls w A n cs) (hok : ∀ c ∈ cs, c.Ok) (hn : n ≤ maxLen) :
    Calls Try.prog 9 #[.slice A n cap] w fun e w' => e = .returned (.bool (greatC cs)) ∧ Below w.heap.size w w' := by
  unfold maxLen at hn
  have hvl := hv.1
  go_enter Try.func9, Try.ntmps9
  go_wp2_with fail
  go_loopw [3, 8] (fun acc i wr => ∃ (k : Nat) (z : Int), k ≤ n ∧ i = .int .i64 k ∧ acc = .int .i64 z ∧ Hid (k ≤ 40 → z = (sumS (cs.take k) : Int)) ∧ Hid (∀ j, j < k → (cs.getD j default).s.length ≤ 131072) ∧ Below w.heap.size w wr) (fun _ i _ => n - (intOf i).toNat)
  case atStart => exact ⟨0, 0, by omega, rfl, rfl, fun _ => by simp [sumS], fun j hj => by omega, Below.refl _ _⟩
  case round =>
    obtain ⟨k, z, hk, rfl, rfl, hz, hsm, hb⟩ := hrel
    by_cases hlt : k < n
    · obtain ⟨b, off, rfl, hbl, hcell⟩ := (hv.below hb).2 (by omega)
      obtain ⟨c0, c1, c2, c3⟩ := hcell k hlt
      have hok1 := okC_at hok (k := k) (by omega)
      have hG := fun h => greatC_at (cs := cs) (k := k) (by omega) h
      have hS : ∀ j, j < k + 1 → j ≠ k → (cs.getD j default).s.length ≤ 131072 := fun j hj hne => hsm.out j (by omega)
      have hT := sumS_take (cs := cs) (k := k) (by omega)
      have hL : sumS (cs.take k) ≤ 131072 * k := by
        have := sumS_le (cs := cs.take k) (fun j hj => by
          have hj' : j < k := by rw [List.length_take] at hj; omega
          have := hsm.out j hj'
          rw [List.getD_eq_getElem?_getD] at this ⊢
          rw [List.getElem?_take, if_pos hj']
          exact this)
        rw [List.length_take] at this
        omega
      have HS := Lib.hid hS
      have HG := Lib.hid hG
      have HT := Lib.hid hT
      have HL := Lib.hid hL
      clear hcell hS hG hT hL
      generalize hx : cs.getD k default = x at *
      obtain ⟨kk, ss, nn, tt⟩ := x
      have hm : ss.length ≤ 9223372036854775807 := by have := hok1.s; unfold maxLen at this; simp at this; omega
      have HX := Lib.hid hx
      clear hx hok1
      simp only at c0 c1 c2 c3
      have hb2 := fun o => hb.alloc hb.size o
      by_cases hg : 131072 < ss.length
      · have hg' : decide ((131072 : Int) < (ss.length : Int)) = true := by simp; omega
        go_wp2_with fail
        go_ret
        exact ⟨ret_bool (HG.out hg).symm, hb2 _⟩
      · have hg' : decide ((131072 : Int) < (ss.length : Int)) = false := by simp; omega
        go_wp2_with fail
        refine ⟨⟨k + 1, _, by omega, by go_num, rfl, ?_, ?_, hb2 _⟩, by simp [intOf]; omega⟩
        · intro h60
          have e := hz.out (by omega)
          have e2 := HT.out
          have e3 := HL.out
          simp only at e2
          rw [e, e2]
          unfold wrap64
          omega
        · intro j hj
          by_cases hjk : j = k
          · subst hjk
            rw [HX.out]
            exact Nat.le_of_not_lt hg
          · exact HS.out j hj hjk
    · obtain rfl : n = k := by omega
      have hE := greatC_end (cs := cs) (fun j hj => hsm.out j (by omega))
      rw [hvl] at hE
      by_cases h60 : 40 < n
      · have h60' : decide ((40 : Int) < (n : Int)) = true := by simp; omega
        have hE2 : greatC cs = true := by rw [hE]; simp; omega
        have HE := Lib.hid hE2
        clear hE hE2
        go_wp2_with fail
        all_goals
          go_ret
          exact ⟨ret_bool HE.out.symm, hb⟩
      · have h60' : decide ((40 : Int) < (n : Int)) = false := by simp; omega
        have hE2 : greatC cs = decide (262144 < z) := by
          have e1 : decide (40 < n) = false := by simp; omega
          rw [hE, hz.out (by omega), List.take_of_length_le (by omega), e1, Bool.false_or]
          exact decide_eq_decide.2 (by omega)
        have HE := Lib.hid hE2
        clear hE hE2
        go_wp2_with fail
        all_goals
          go_ret
          exact ⟨ret_bool HE.out.symm, hb⟩


theorem below_in' {B : Nat} {w w1 w2 : World} (h : Below B w w1) (k : Below w1.heap.size w1 w2) (hB : B ≤ w1.heap.size := by first | assumption | exact h.size) : Below B w w2 := below_join h k hB

theorem add_fits {D : Dk} {s : List UInt8} (hd : D.down = false) (hs : s.length ≤ 65535) (hx : D.xs.length + s.length + 6 ≤ D.size) : D.add s = (0, { D with xs := D.xs ++ frameOf s }) := by
  unfold Dk.add Dk.append
  rw [hd, if_neg Bool.false_ne_true, if_neg (by omega), if_neg Bool.false_ne_true, if_neg (by rw [frameOf_length]; omega)]
theorem open_empty {w : World} {base b : Nat} {v : Value} {D : Dk} (h : Dsk w base b v D) (hk : D.Ok) (hx : D.xs = []) (hd : D.down = false) (lb : base ≤ b) (hb : base ≤ w.heap.size) :
    Calls Try.prog 11 #[.pointer (some ⟨b, 0, none⟩)] w fun e w' => ∃ A c L v', e = .returned (.tuple #[.pointer (some ⟨L, 0, none⟩), .slice A 0 c, .int .i64 0]) ∧ Lg w' base L b v' D 0 ∧ Wgrew w b v w' v' := by
  refine (open_any h hk hd lb hb).mono ?_
  rintro e w' ⟨A, c, L, v', rfl, _, hL, hG⟩
  have hs : D.safe = 0 := by have := hk.safe; rw [hx] at this; simpa using this
  have hc : D.cut = D := by
    obtain ⟨xs, safe, size, boots, down⟩ := D
    simp only at hx hs
    subst hx hs
    unfold Dk.cut
    simp [scanOf_nil, took]
  rw [hc, hx, scanOf_nil] at hL
  rw [hx, scanOf_nil]
  exact ⟨A, c, L, v', rfl, hL, hG⟩

/-- What remains where one byte of the second record remains. -/
theorem torn_one (a b : List UInt8) (ha : a.length < 65536) (t : UInt8) : scanOf (turned (frameOf a ++ frameOf b) ((frameOf a).length + 1) t) = [a] := by
  have e : ∃ x : UInt8, turned (frameOf a ++ frameOf b) ((frameOf a).length + 1) t = frames [a] ++ [x] := by
    refine ⟨(frameOf a ++ frameOf b).getD ((frameOf a).length) 0 ^^^ t, ?_⟩
    unfold turned
    rw [Nat.add_sub_cancel, List.take_left' rfl]
    simp [frames]
  obtain ⟨x, hx⟩ := e
  rw [hx, scanOf_frames [a] (by simpa using ha), scanOf_none (firstOf_short (.inl (by simp)))]
  rfl

set_option maxRecDepth 100000 in
set_option maxHeartbeats 800000 in
theorem alive_any (w : World) : Calls Try.prog 8 #[] w fun e w' => e = .returned (.bool true) ∧ Below w.heap.size w w' := by
  have ok0 := dkNew_ok 100
  have l1 : (frameOf [97]).length = 7 := frameOf_length _
  have l2 : (frameOf [98]).length = 7 := frameOf_length _
  have a1 : (dkNew 100).add [97] = (0, ⟨frameOf [97], 0, 100, 1, false⟩) := add_fits rfl (by decide) (by decide)
  have a2 : (⟨frameOf [97], 7, 100, 1, false⟩ : Dk).add [98] = (0, ⟨frameOf [97] ++ frameOf [98], 7, 100, 1, false⟩) := add_fits rfl (by decide) (by simp only [l1]; decide)
  have s1 : (⟨frameOf [97], 0, 100, 1, false⟩ : Dk).sync = (0, ⟨frameOf [97], 7, 100, 1, false⟩) := by unfold Dk.sync; simp only [l1]; rfl
  have o1 : (⟨frameOf [97] ++ frameOf [98], 7, 100, 1, false⟩ : Dk).off 1 0 = ⟨turned (frameOf [97] ++ frameOf [98]) ((frameOf [97]).length + 1) 0, 7, 100, 1, true⟩ := by
    have hk : (⟨frameOf [97] ++ frameOf [98], 7, 100, 1, false⟩ : Dk).kept 1 = 1 := by unfold Dk.kept; simp [l1, l2]
    unfold Dk.off
    rw [hk, l1]
    rfl
  have hsc := torn_one [97] [98] (by decide) 0
  generalize turned (frameOf [97] ++ frameOf [98]) ((frameOf [97]).length + 1) 0 = tt at *
  have o2 : (⟨tt, 7, 100, 1, true⟩ : Dk).on = ⟨tt, tt.length, 100, 2, false⟩ := rfl
  have hks : (dkNew 100).size = 100 := rfl
  go_enter Try.func8, Try.ntmps8
  go_wp2_with fail
  refine (new_any 100 w).mono ?_
  rintro e w1 ⟨rfl, hD1, hb1, hs1⟩
  go_wp2_with fail
  refine (open_empty hD1 ok0 rfl rfl (Nat.le_refl _) (by omega)).mono ?_
  rintro e w2 ⟨A2, c2, L, v2, rfl, hL2, hG2⟩
  have hb2 : Below w.heap.size w w2 := hb1.trans (hG2.below' hD1 (Nat.le_refl _) (Nat.le_refl _) (by omega))
  have z2 := hb2.size
  clear hG2 hD1 hs1
  have ad1 := add_any hL2 (by omega) [97] (by decide) z2
  rw [a1] at ad1
  simp only [if_true] at ad1
  go_wp2_with fail
  refine ad1.mono ?_
  rintro e w3 ⟨rfl, v3, hL3, hM3⟩
  have hb3 : Below w.heap.size w w3 := hb2.trans (hM3.below hL2 (Nat.le_refl _) z2)
  have z3 := hb3.size
  clear hM3 hL2 ad1 a1
  have fo := force_any hL3
  rw [s1] at fo
  go_wp2_with fail
  refine fo.mono ?_
  rintro e w4 ⟨rfl, hL4, hM4⟩
  have hb4 : Below w.heap.size w w4 := hb3.trans (hM4.below hL3 (Nat.le_refl _) z3)
  have z4 := hb4.size
  clear hM4 hL3 fo s1
  have ad2 := add_any hL4 (by omega) [98] (by decide) z4
  rw [a2] at ad2
  simp only [if_true] at ad2
  go_wp2_with fail
  refine ad2.mono ?_
  rintro e w5 ⟨rfl, v5, hL5, hM5⟩
  have hb5 : Below w.heap.size w w5 := hb4.trans (hM5.below hL4 (Nat.le_refl _) z4)
  have z5 := hb5.size
  clear hM5 hL4 ad2 a2
  have of := off_any hL5.dsk hL5.ok 1 0
  have ok6 := off_ok hL5.ok 1 0
  rw [o1] at of ok6
  go_wp2_with fail
  refine of.mono ?_
  rintro e w6 ⟨rfl, v6, hD6, hG6⟩
  have hb6 : Below w.heap.size w w6 := hb5.trans (hG6.below' hL5.dsk (Nat.le_refl _) (Nat.le_refl _) z5)
  have z6 := hb6.size
  clear hG6 hL5 of o1
  have on := on_any hD6 (by show 1 < 1000000; omega)
  have ok7 := on_ok ok6
  rw [o2] at on ok7
  go_wp2_with fail
  refine on.mono ?_
  rintro e w7 ⟨rfl, hD7, hG7⟩
  have hb7 : Below w.heap.size w w7 := hb6.trans (hG7.below' hD6 (Nat.le_refl _) (Nat.le_refl _) z6)
  have z7 := hb7.size
  clear hG7 hD6 on o2 ok6
  have op := open_any hD7 ok7 rfl (Nat.le_refl _) z7
  simp only [hsc] at op
  go_wp2_with fail
  refine op.mono ?_
  rintro e w8 ⟨A8, c8, L8, v8, rfl, hO8, hL8, hG8⟩
  have hb8 : Below w.heap.size w w8 := hb7.trans (hG8.below' hD7 (Nat.le_refl _) (Nat.le_refl _) z7)
  obtain ⟨g, off, rfl, _, hcell⟩ := hO8.strs.2 (by simp)
  have q0 : w8.cell? ⟨g, off, none⟩ = some (.string ⟨#[97]⟩) := hcell 0 (by simp)
  clear hL8 hG8 hcell
  go_wp2_with fail
  go_ret
  exact ⟨rfl, hb8⟩
end Go.Proofs.Ytmdoicemkddpgaa
