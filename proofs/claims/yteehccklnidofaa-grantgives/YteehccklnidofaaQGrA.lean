/- The walks of grant's small functions: Role, Good, compare; the reference's Good. -/
import Derived.Test.YteehccklnidofaaQGrM
import Derived.Test.YteehccklnidofaaQExC
import Derived.Test.YteehccklnidofaaQScBn
import Derived.Test.YteehccklnidofaaQScBr
namespace Go.Proofs.Yteehccklnidofaa
open Go.RowKit
open Go.Op (bytesLess)

theorem role_any (r : Int) (w : World) : Calls Try.prog 19 #[.int .i64 r] w fun e w' => e = .returned (.bool (decide (0 ≤ r ∧ r ≤ 7))) ∧ w = w' := by
  by_cases h0 : 0 ≤ r
  · by_cases h7 : r < 8
    · rw [decide_eq_true (show 0 ≤ r ∧ r ≤ 7 from ⟨h0, by omega⟩)]
      go_enter Try.func19, Try.ntmps19
      go_wp2
      go_ret
      exact ⟨rfl, rfl⟩
    · rw [decide_eq_false (show ¬ (0 ≤ r ∧ r ≤ 7) by omega)]
      go_enter Try.func19, Try.ntmps19
      go_wp2
      go_ret
      exact ⟨rfl, rfl⟩
  · rw [decide_eq_false (show ¬ (0 ≤ r ∧ r ≤ 7) by omega)]
    go_enter Try.func19, Try.ntmps19
    go_wp2
    go_ret
    exact ⟨rfl, rfl⟩
theorem nanS_any (a : List UInt8) (w : World) : Calls Try.prog 45 #[.string ⟨a.toArray⟩] w fun e w' => e = .returned (.bool false) ∧ w = w' := by
  go_enter Try.func45, Try.ntmps45
  go_wp2
  go_ret
  exact ⟨rfl, rfl⟩
def cmpS (a b : List UInt8) : Int := if bytesLess a b = true then -1 else if bytesLess b a = true then 1 else 0
theorem cmpS_any (a b : List UInt8) (w : World) : Calls Try.prog 38 #[.string ⟨a.toArray⟩, .string ⟨b.toArray⟩] w fun e w' => e = .returned (.int .i64 (cmpS a b)) ∧ w = w' := by
  cases h1 : bytesLess a b with
  | true =>
    rw [show cmpS a b = -1 by unfold cmpS; rw [h1]; rfl]
    go_enter Try.func38, Try.ntmps38
    go_wp2_with (go_at_call 45; refine (nanS_any _ _).mono ?_; rintro e w' ⟨rfl, rfl⟩)
    go_ret
    exact ⟨rfl, rfl⟩
  | false =>
    by_cases he : a = b
    · rw [show cmpS a b = 0 by unfold cmpS; rw [h1, he, bl_irr]; rfl]
      have hb : (!a == b) = false := by simp [he]
      clear he
      go_enter Try.func38, Try.ntmps38
      go_wp2_with (go_at_call 45; refine (nanS_any _ _).mono ?_; rintro e w' ⟨rfl, rfl⟩)
      go_ret
      exact ⟨rfl, rfl⟩
    · rw [show cmpS a b = 1 by
        unfold cmpS; rw [h1]
        cases h2 : bytesLess b a with
        | true => rfl
        | false => exact absurd (bl_tri a b h1 h2) he]
      have hb : (!a == b) = true := by simp [he]
      clear he
      go_enter Try.func38, Try.ntmps38
      go_wp2_with (go_at_call 45; refine (nanS_any _ _).mono ?_; rintro e w' ⟨rfl, rfl⟩)
      go_ret
      exact ⟨rfl, rfl⟩
theorem cmpRT_same (r : Int) (t t' : List UInt8) : cmpRT r t r t' = cmpS t t' := by unfold cmpRT cmpS; rw [ltK_eq, ltK_eq]
theorem cmpRT_diff {r r' : Int} (h : r ≠ r') (t t' : List UInt8) : cmpRT r t r' t' = cmpInt r r' := by
  unfold cmpRT cmpInt
  rcases Int.lt_trichotomy r r' with k | k | k
  · rw [ltK_lt k]; simp [k]
  · exact absurd k h
  · rw [ltK_gt k, ltK_lt k]; simp; omega

theorem below_box2 (w : World) (o o' : Obj) : Below w.heap.size w ((w.alloc o).alloc o') := (below_box w o).alloc (below_box w o).size _
set_option maxRecDepth 100000 in
set_option maxHeartbeats 800000 in
theorem gcompare_any (a b : Gr) (w : World) : Calls Try.prog 29 #[a.val, b.val] w fun e w' => e = .returned (.int .i64 (cmpRT a.role a.table b.role b.table)) ∧ Below w.heap.size w w' := by
  obtain ⟨r, t, x⟩ := a
  obtain ⟨r', t', x'⟩ := b
  simp only [Gr.val]
  by_cases h : r = r'
  · subst h
    rw [cmpRT_same]
    go_enter Try.func29, Try.ntmps29
    go_wp2_with (go_at_call 38; refine (cmpS_any _ _ _).mono ?_; rintro e w' ⟨rfl, rfl⟩)
    go_ret
    exact ⟨rfl, below_box2 w _ _⟩
  · rw [cmpRT_diff h]
    go_enter Try.func29, Try.ntmps29
    go_wp2_with (go_at_call 37; refine (cmpInt_any _ _ _).mono ?_; rintro e w' ⟨rfl, rfl⟩)
    go_ret
    exact ⟨rfl, below_box2 w _ _⟩

theorem good_role {g : Gr} (h : ¬ (1 ≤ g.role ∧ g.role ≤ 7)) : goodG g = false := by unfold goodG; rw [decide_eq_false h]; rfl
theorem good_name {g : Gr} (h : nameN g.table = false) : goodG g = false := by unfold goodG; rw [h]; simp
theorem good_bits {g : Gr} (h : ¬ (1 ≤ g.bits ∧ g.bits ≤ 31)) : goodG g = false := by unfold goodG; rw [decide_eq_false h]; simp
theorem good_all {g : Gr} (h : 1 ≤ g.role ∧ g.role ≤ 7) (h2 : nameN g.table = true) (h3 : 1 ≤ g.bits ∧ g.bits ≤ 31) : goodG g = true := by unfold goodG; rw [decide_eq_true h, h2, decide_eq_true h3]; rfl

set_option maxRecDepth 100000 in
set_option maxHeartbeats 1600000 in
theorem ggood_any (g : Gr) (w : World) (ht : g.table.length ≤ maxLen) : Calls Try.prog 18 #[g.val] w fun e w' => e = .returned (.bool (goodG g)) ∧ Below w.heap.size w w' := by
  have k1 := good_role (g := g)
  have k2 := good_name (g := g)
  have k3 := good_bits (g := g)
  have k4 := good_all (g := g)
  generalize goodG g = R at *
  obtain ⟨r, t, x⟩ := g
  simp only at k1 k2 k3 k4 ht
  simp only [Gr.val]
  have HM := Lib.hid ht
  have b0 := below_box w (.cells #[.int .i64 r, .string ⟨t.toArray⟩, .int .i64 x] 24)
  clear ht
  by_cases h1 : 1 ≤ r
  · by_cases h7 : r ≤ 7
    · have HR : Hid (decide (0 ≤ r ∧ r ≤ 7) = true) := decide_eq_true ⟨by omega, h7⟩
      have hr0 : ¬ r = 0 := by omega
      cases hn : nameN t with
      | false =>
        have HN := Lib.hid hn
        rw [k2 hn]
        clear k1 k2 k3 k4 hn
        go_enter Try.func18, Try.ntmps18
        go_wp2_with (first | (go_at_call 19; refine (role_any _ _).mono ?_; rintro e w' ⟨rfl, rfl⟩; rw [HR.out]) | (go_at_call 32; refine (name_any _ HM.out _).mono ?_; rintro e w' ⟨rfl, rfl⟩; rw [HN.out]))
        go_ret
        exact ⟨by first | rfl | (show Ending.returned (Value.bool _) = Ending.returned (Value.bool _); congr 2; simp <;> omega), b0⟩
      | true =>
        have HN := Lib.hid hn
        by_cases h2 : 1 ≤ x
        · by_cases h3 : x ≤ 31
          · rw [k4 ⟨h1, h7⟩ hn ⟨h2, h3⟩]
            clear k1 k2 k3 k4 hn
            go_enter Try.func18, Try.ntmps18
            go_wp2_with (first | (go_at_call 19; refine (role_any _ _).mono ?_; rintro e w' ⟨rfl, rfl⟩; rw [HR.out]) | (go_at_call 32; refine (name_any _ HM.out _).mono ?_; rintro e w' ⟨rfl, rfl⟩; rw [HN.out]))
            go_ret
            exact ⟨by first | rfl | (show Ending.returned (Value.bool _) = Ending.returned (Value.bool _); congr 2; simp <;> omega), b0⟩
          · rw [k3 (by omega)]
            clear k1 k2 k3 k4 hn
            go_enter Try.func18, Try.ntmps18
            go_wp2_with (first | (go_at_call 19; refine (role_any _ _).mono ?_; rintro e w' ⟨rfl, rfl⟩; rw [HR.out]) | (go_at_call 32; refine (name_any _ HM.out _).mono ?_; rintro e w' ⟨rfl, rfl⟩; rw [HN.out]))
            go_ret
            exact ⟨by first | rfl | (show Ending.returned (Value.bool _) = Ending.returned (Value.bool _); congr 2; simp <;> omega), b0⟩
        · rw [k3 (by omega)]
          clear k1 k2 k3 k4 hn
          go_enter Try.func18, Try.ntmps18
          go_wp2_with (first | (go_at_call 19; refine (role_any _ _).mono ?_; rintro e w' ⟨rfl, rfl⟩; rw [HR.out]) | (go_at_call 32; refine (name_any _ HM.out _).mono ?_; rintro e w' ⟨rfl, rfl⟩; rw [HN.out]))
          go_ret
          exact ⟨by first | rfl | (show Ending.returned (Value.bool _) = Ending.returned (Value.bool _); congr 2; simp <;> omega), b0⟩
    · have HR : Hid (decide (0 ≤ r ∧ r ≤ 7) = false) := decide_eq_false (by omega)
      rw [k1 (by omega)]
      clear k1 k2 k3 k4
      go_enter Try.func18, Try.ntmps18
      go_wp2_with (first | (go_at_call 19; refine (role_any _ _).mono ?_; rintro e w' ⟨rfl, rfl⟩; rw [HR.out]) | (go_at_call 32; refine (name_any _ HM.out _).mono ?_; rintro e w' ⟨rfl, rfl⟩; rw [HN.out]))
      go_ret
      exact ⟨by first | rfl | (show Ending.returned (Value.bool _) = Ending.returned (Value.bool _); congr 2; simp <;> omega), b0⟩
  · by_cases h0 : r = 0
    · subst h0
      have HR : Hid (decide ((0 : Int) ≤ 0 ∧ (0 : Int) ≤ 7) = true) := by show _ = _; decide
      rw [k1 (by omega)]
      clear k1 k2 k3 k4
      go_enter Try.func18, Try.ntmps18
      go_wp2_with (first | (go_at_call 19; refine (role_any _ _).mono ?_; rintro e w' ⟨rfl, rfl⟩; rw [HR.out]) | (go_at_call 32; refine (name_any _ HM.out _).mono ?_; rintro e w' ⟨rfl, rfl⟩; rw [HN.out]))
      go_ret
      exact ⟨by first | rfl | (show Ending.returned (Value.bool _) = Ending.returned (Value.bool _); congr 2; simp <;> omega), b0⟩
    · have HR : Hid (decide (0 ≤ r ∧ r ≤ 7) = false) := decide_eq_false (by omega)
      rw [k1 (by omega)]
      clear k1 k2 k3 k4
      go_enter Try.func18, Try.ntmps18
      go_wp2_with (first | (go_at_call 19; refine (role_any _ _).mono ?_; rintro e w' ⟨rfl, rfl⟩; rw [HR.out]) | (go_at_call 32; refine (name_any _ HM.out _).mono ?_; rintro e w' ⟨rfl, rfl⟩; rw [HN.out]))
      go_ret
      exact ⟨by first | rfl | (show Ending.returned (Value.bool _) = Ending.returned (Value.bool _); congr 2; simp <;> omega), b0⟩

set_option maxRecDepth 100000 in
set_option maxHeartbeats 1600000 in
theorem rgoodG_any (g : Gr) (w : World) (ht : g.table.length ≤ maxLen) : Calls Try.prog 13 #[g.val] w fun e w' => e = .returned (.bool (goodG g)) ∧ Below w.heap.size w w' := by
  have k1 := good_role (g := g)
  have k2 := good_name (g := g)
  have k3 := good_bits (g := g)
  have k4 := good_all (g := g)
  generalize goodG g = R at *
  obtain ⟨r, t, x⟩ := g
  simp only at k1 k2 k3 k4 ht
  simp only [Gr.val]
  have HM := Lib.hid ht
  have b0 := below_box w (.cells #[.int .i64 r, .string ⟨t.toArray⟩, .int .i64 x] 24)
  clear ht
  by_cases h1 : 1 ≤ r
  · by_cases h7 : r ≤ 7
    · have HR : Hid (decide (0 ≤ r ∧ r ≤ 7) = true) := decide_eq_true ⟨by omega, h7⟩
      have hr0 : ¬ r = 0 := by omega
      cases hn : nameN t with
      | false =>
        have HN := Lib.hid hn
        rw [k2 hn]
        clear k1 k2 k3 k4 hn
        go_enter Try.func13, Try.ntmps13
        go_wp2_with (go_at_call 28; refine (refName_any _ HM.out _).mono ?_; rintro e w' ⟨rfl, rfl⟩; rw [HN.out])
        go_ret
        exact ⟨by first | rfl | (show Ending.returned (Value.bool _) = Ending.returned (Value.bool _); congr 2; simp <;> omega), b0⟩
      | true =>
        have HN := Lib.hid hn
        by_cases h2 : 1 ≤ x
        · by_cases h3 : x ≤ 31
          · rw [k4 ⟨h1, h7⟩ hn ⟨h2, h3⟩]
            clear k1 k2 k3 k4 hn
            go_enter Try.func13, Try.ntmps13
            go_wp2_with (go_at_call 28; refine (refName_any _ HM.out _).mono ?_; rintro e w' ⟨rfl, rfl⟩; rw [HN.out])
            go_ret
            exact ⟨by first | rfl | (show Ending.returned (Value.bool _) = Ending.returned (Value.bool _); congr 2; simp <;> omega), b0⟩
          · rw [k3 (by omega)]
            clear k1 k2 k3 k4 hn
            go_enter Try.func13, Try.ntmps13
            go_wp2_with (go_at_call 28; refine (refName_any _ HM.out _).mono ?_; rintro e w' ⟨rfl, rfl⟩; rw [HN.out])
            go_ret
            exact ⟨by first | rfl | (show Ending.returned (Value.bool _) = Ending.returned (Value.bool _); congr 2; simp <;> omega), b0⟩
        · rw [k3 (by omega)]
          clear k1 k2 k3 k4 hn
          go_enter Try.func13, Try.ntmps13
          go_wp2_with (go_at_call 28; refine (refName_any _ HM.out _).mono ?_; rintro e w' ⟨rfl, rfl⟩; rw [HN.out])
          go_ret
          exact ⟨by first | rfl | (show Ending.returned (Value.bool _) = Ending.returned (Value.bool _); congr 2; simp <;> omega), b0⟩
    · have HR : Hid (decide (0 ≤ r ∧ r ≤ 7) = false) := decide_eq_false (by omega)
      rw [k1 (by omega)]
      clear k1 k2 k3 k4
      go_enter Try.func13, Try.ntmps13
      go_wp2_with (go_at_call 28; refine (refName_any _ HM.out _).mono ?_; rintro e w' ⟨rfl, rfl⟩; rw [HN.out])
      go_ret
      exact ⟨by first | rfl | (show Ending.returned (Value.bool _) = Ending.returned (Value.bool _); congr 2; simp <;> omega), b0⟩
  · rw [k1 (by omega)]
    clear k1 k2 k3 k4
    go_enter Try.func13, Try.ntmps13
    go_wp2_with (go_at_call 28; refine (refName_any _ HM.out _).mono ?_; rintro e w' ⟨rfl, rfl⟩; rw [HN.out])
    go_ret
    exact ⟨by first | rfl | (show Ending.returned (Value.bool _) = Ending.returned (Value.bool _); congr 2; simp <;> omega), b0⟩
end Go.Proofs.Yteehccklnidofaa
