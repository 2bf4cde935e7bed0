/- The walks of grant's small functions: Role, Good, compare; the reference's Good. -/
/- The walks of find (slices.BinarySearchFunc over compare), Sorted. -/
import Derived.Test.YtnhalfdddcjicaaGreatQJar
import Derived.Test.YtnhalfdddcjicaaGreatQJaj
import Derived.Test.YtnhalfdddcjicaaGreatQJai
import Derived.StillTailTactics
namespace Go.Proofs.YtnhalfdddcjicaaGreat
open Go.RowKit
open Go.Op (bytesLess)

theorem role_any (r : Int) (w : World) : Calls Tryz.prog 21 #[.int .i64 r] w fun e w' => e = .returned (.bool (decide (0 ≤ r ∧ r ≤ 7))) ∧ w = w' := by
  by_cases h0 : 0 ≤ r
  · by_cases h7 : r < 8
    · rw [decide_eq_true (show 0 ≤ r ∧ r ≤ 7 from ⟨h0, by omega⟩)]
      go_enter Tryz.func21, Tryz.ntmps21
      go_wp2
      go_ret
      exact ⟨rfl, rfl⟩
    · rw [decide_eq_false (show ¬ (0 ≤ r ∧ r ≤ 7) by omega)]
      go_enter Tryz.func21, Tryz.ntmps21
      go_wp2
      go_ret
      exact ⟨rfl, rfl⟩
  · rw [decide_eq_false (show ¬ (0 ≤ r ∧ r ≤ 7) by omega)]
    go_enter Tryz.func21, Tryz.ntmps21
    go_wp2
    go_ret
    exact ⟨rfl, rfl⟩
theorem nanS_any (a : List UInt8) (w : World) : Calls Tryz.prog 112 #[.string ⟨a.toArray⟩] w fun e w' => e = .returned (.bool false) ∧ w = w' := by
  go_enter Tryz.func112, Tryz.ntmps112
  go_wp2
  go_ret
  exact ⟨rfl, rfl⟩
def cmpS (a b : List UInt8) : Int := if bytesLess a b = true then -1 else if bytesLess b a = true then 1 else 0
theorem cmpS_any (a b : List UInt8) (w : World) : Calls Tryz.prog 88 #[.string ⟨a.toArray⟩, .string ⟨b.toArray⟩] w fun e w' => e = .returned (.int .i64 (cmpS a b)) ∧ w = w' := by
  cases h1 : bytesLess a b with
  | true =>
    rw [show cmpS a b = -1 by unfold cmpS; rw [h1]; rfl]
    go_enter Tryz.func88, Tryz.ntmps88
    go_wp2_with (go_at_call 112; refine (nanS_any _ _).mono ?_; rintro e w' ⟨rfl, rfl⟩)
    go_ret
    exact ⟨rfl, rfl⟩
  | false =>
    by_cases he : a = b
    · rw [show cmpS a b = 0 by unfold cmpS; rw [h1, he, bl_irr]; rfl]
      have hb : (!a == b) = false := by simp [he]
      clear he
      go_enter Tryz.func88, Tryz.ntmps88
      go_wp2_with (go_at_call 112; refine (nanS_any _ _).mono ?_; rintro e w' ⟨rfl, rfl⟩)
      go_ret
      exact ⟨rfl, rfl⟩
    · rw [show cmpS a b = 1 by
        unfold cmpS; rw [h1]
        cases h2 : bytesLess b a with
        | true => rfl
        | false => exact absurd (bl_tri a b h1 h2) he]
      have hb : (!a == b) = true := by simp [he]
      clear he
      go_enter Tryz.func88, Tryz.ntmps88
      go_wp2_with (go_at_call 112; refine (nanS_any _ _).mono ?_; rintro e w' ⟨rfl, rfl⟩)
      go_ret
      exact ⟨rfl, rfl⟩
theorem cmpRT_same (r : Int) (t t' : List UInt8) : cmpRT r t r t' = cmpS t t' := by unfold cmpRT cmpS; rw [ltK_eq, ltK_eq]
theorem cmpRT_diff {r r' : Int} (h : r ≠ r') (t t' : List UInt8) : cmpRT r t r' t' = cmpInt r r' := by
  unfold cmpRT cmpInt
  rcases Int.lt_trichotomy r r' with k | k | k
  · rw [ltK_lt k]; simp [k]
  · exact absurd k h
  · rw [ltK_gt k, ltK_lt k]; simp; omega

theorem below_box2 (w : World) (o o' : Obj) : Below w.heap.size w ((w.alloc o).alloc o') := (below_box w o).alloc (below_box w o).size _
set_option maxRecDepth 100000 in
set_option maxHeartbeats 800000 in
theorem gcompare_any (a b : Gr) (w : World) : Calls Tryz.prog 59 #[a.val, b.val] w fun e w' => e = .returned (.int .i64 (cmpRT a.role a.table b.role b.table)) ∧ Below w.heap.size w w' := by
  obtain ⟨r, t, x⟩ := a
  obtain ⟨r', t', x'⟩ := b
  simp only [Gr.val]
  by_cases h : r = r'
  · subst h
    rw [cmpRT_same]
    go_enter Tryz.func59, Tryz.ntmps59
    go_wp2_with (go_at_call 88; refine (cmpS_any _ _ _).mono ?_; rintro e w' ⟨rfl, rfl⟩)
    go_ret
    exact ⟨rfl, below_box2 w _ _⟩
  · rw [cmpRT_diff h]
    go_enter Tryz.func59, Tryz.ntmps59
    go_wp2_with (go_at_call 87; refine (cmpInt_any _ _ _).mono ?_; rintro e w' ⟨rfl, rfl⟩)
    go_ret
    exact ⟨rfl, below_box2 w _ _⟩

theorem good_role {g : Gr} (h : ¬ (1 ≤ g.role ∧ g.role ≤ 7)) : goodG g = false := by unfold goodG; rw [decide_eq_false h]; rfl
theorem good_name {g : Gr} (h : nameN g.table = false) : goodG g = false := by unfold goodG; rw [h]; simp
theorem good_bits {g : Gr} (h : ¬ (1 ≤ g.bits ∧ g.bits ≤ 31)) : goodG g = false := by unfold goodG; rw [decide_eq_false h]; simp
theorem good_all {g : Gr} (h : 1 ≤ g.role ∧ g.role ≤ 7) (h2 : nameN g.table = true) (h3 : 1 ≤ g.bits ∧ g.bits ≤ 31) : goodG g = true := by unfold goodG; rw [decide_eq_true h, h2, decide_eq_true h3]; rfl

set_option maxRecDepth 100000 in
set_option maxHeartbeats 1600000 in
theorem ggood_any (g : Gr) (w : World) (ht : g.table.length ≤ maxLen) : Calls Tryz.prog 58 #[g.val] w fun e w' => e = .returned (.bool (goodG g)) ∧ Below w.heap.size w w' := by
  have k1 := good_role (g := g)
  have k2 := good_name (g := g)
  have k3 := good_bits (g := g)
  have k4 := good_all (g := g)
  generalize goodG g = R at *
  obtain ⟨r, t, x⟩ := g
  simp only at k1 k2 k3 k4 ht
  simp only [Gr.val]
  have HM := Lib.hid ht
  have b0 := below_box w (.cells #[.int .i64 r, .string ⟨t.toArray⟩, .int .i64 x] 50)
  clear ht
  by_cases h1 : 1 ≤ r
  · by_cases h7 : r ≤ 7
    · have HR : Hid (decide (0 ≤ r ∧ r ≤ 7) = true) := decide_eq_true ⟨by omega, h7⟩
      have hr0 : ¬ r = 0 := by omega
      cases hn : nameN t with
      | false =>
        have HN := Lib.hid hn
        rw [k2 hn]
        clear k1 k2 k3 k4 hn
        go_enter Tryz.func58, Tryz.ntmps58
        go_wp2_with (first | (go_at_call 21; refine (role_any _ _).mono ?_; rintro e w' ⟨rfl, rfl⟩; rw [HR.out]) | (go_at_call 62; refine (name_any _ HM.out _).mono ?_; rintro e w' ⟨rfl, rfl⟩; rw [HN.out]))
        go_ret
        exact ⟨by first | rfl | (show Ending.returned (Value.bool _) = Ending.returned (Value.bool _); congr 2; simp <;> omega), b0⟩
      | true =>
        have HN := Lib.hid hn
        by_cases h2 : 1 ≤ x
        · by_cases h3 : x ≤ 31
          · rw [k4 ⟨h1, h7⟩ hn ⟨h2, h3⟩]
            clear k1 k2 k3 k4 hn
            go_enter Tryz.func58, Tryz.ntmps58
            go_wp2_with (first | (go_at_call 21; refine (role_any _ _).mono ?_; rintro e w' ⟨rfl, rfl⟩; rw [HR.out]) | (go_at_call 62; refine (name_any _ HM.out _).mono ?_; rintro e w' ⟨rfl, rfl⟩; rw [HN.out]))
            go_ret
            exact ⟨by first | rfl | (show Ending.returned (Value.bool _) = Ending.returned (Value.bool _); congr 2; simp <;> omega), b0⟩
          · rw [k3 (by omega)]
            clear k1 k2 k3 k4 hn
            go_enter Tryz.func58, Tryz.ntmps58
            go_wp2_with (first | (go_at_call 21; refine (role_any _ _).mono ?_; rintro e w' ⟨rfl, rfl⟩; rw [HR.out]) | (go_at_call 62; refine (name_any _ HM.out _).mono ?_; rintro e w' ⟨rfl, rfl⟩; rw [HN.out]))
            go_ret
            exact ⟨by first | rfl | (show Ending.returned (Value.bool _) = Ending.returned (Value.bool _); congr 2; simp <;> omega), b0⟩
        · rw [k3 (by omega)]
          clear k1 k2 k3 k4 hn
          go_enter Tryz.func58, Tryz.ntmps58
          go_wp2_with (first | (go_at_call 21; refine (role_any _ _).mono ?_; rintro e w' ⟨rfl, rfl⟩; rw [HR.out]) | (go_at_call 62; refine (name_any _ HM.out _).mono ?_; rintro e w' ⟨rfl, rfl⟩; rw [HN.out]))
          go_ret
          exact ⟨by first | rfl | (show Ending.returned (Value.bool _) = Ending.returned (Value.bool _); congr 2; simp <;> omega), b0⟩
    · have HR : Hid (decide (0 ≤ r ∧ r ≤ 7) = false) := decide_eq_false (by omega)
      rw [k1 (by omega)]
      clear k1 k2 k3 k4
      go_enter Tryz.func58, Tryz.ntmps58
      go_wp2_with (first | (go_at_call 21; refine (role_any _ _).mono ?_; rintro e w' ⟨rfl, rfl⟩; rw [HR.out]) | (go_at_call 62; refine (name_any _ HM.out _).mono ?_; rintro e w' ⟨rfl, rfl⟩; rw [HN.out]))
      go_ret
      exact ⟨by first | rfl | (show Ending.returned (Value.bool _) = Ending.returned (Value.bool _); congr 2; simp <;> omega), b0⟩
  · by_cases h0 : r = 0
    · subst h0
      have HR : Hid (decide ((0 : Int) ≤ 0 ∧ (0 : Int) ≤ 7) = true) := by show _ = _; decide
      rw [k1 (by omega)]
      clear k1 k2 k3 k4
      go_enter Tryz.func58, Tryz.ntmps58
      go_wp2_with (first | (go_at_call 21; refine (role_any _ _).mono ?_; rintro e w' ⟨rfl, rfl⟩; rw [HR.out]) | (go_at_call 62; refine (name_any _ HM.out _).mono ?_; rintro e w' ⟨rfl, rfl⟩; rw [HN.out]))
      go_ret
      exact ⟨by first | rfl | (show Ending.returned (Value.bool _) = Ending.returned (Value.bool _); congr 2; simp <;> omega), b0⟩
    · have HR : Hid (decide (0 ≤ r ∧ r ≤ 7) = false) := decide_eq_false (by omega)
      rw [k1 (by omega)]
      clear k1 k2 k3 k4
      go_enter Tryz.func58, Tryz.ntmps58
      go_wp2_with (first | (go_at_call 21; refine (role_any _ _).mono ?_; rintro e w' ⟨rfl, rfl⟩; rw [HR.out]) | (go_at_call 62; refine (name_any _ HM.out _).mono ?_; rintro e w' ⟨rfl, rfl⟩; rw [HN.out]))
      go_ret
      exact ⟨by first | rfl | (show Ending.returned (Value.bool _) = Ending.returned (Value.bool _); congr 2; simp <;> omega), b0⟩

set_option maxRecDepth 100000 in
set_option maxHeartbeats 1600000 in
theorem rgoodG_any (g : Gr) (w : World) (ht : g.table.length ≤ maxLen) : Calls Tryz.prog 20 #[g.val] w fun e w' => e = .returned (.bool (goodG g)) ∧ Below w.heap.size w w' := by
  have k1 := good_role (g := g)
  have k2 := good_name (g := g)
  have k3 := good_bits (g := g)
  have k4 := good_all (g := g)
  generalize goodG g = R at *
  obtain ⟨r, t, x⟩ := g
  simp only at k1 k2 k3 k4 ht
  simp only [Gr.val]
  have HM := Lib.hid ht
  have b0 := below_box w (.cells #[.int .i64 r, .string ⟨t.toArray⟩, .int .i64 x] 50)
  clear ht
  by_cases h1 : 1 ≤ r
  · by_cases h7 : r ≤ 7
    · have HR : Hid (decide (0 ≤ r ∧ r ≤ 7) = true) := decide_eq_true ⟨by omega, h7⟩
      have hr0 : ¬ r = 0 := by omega
      cases hn : nameN t with
      | false =>
        have HN := Lib.hid hn
        rw [k2 hn]
        clear k1 k2 k3 k4 hn
        go_enter Tryz.func20, Tryz.ntmps20
        go_wp2_with (go_at_call 37; refine (refName_any _ HM.out _).mono ?_; rintro e w' ⟨rfl, rfl⟩; rw [HN.out])
        go_ret
        exact ⟨by first | rfl | (show Ending.returned (Value.bool _) = Ending.returned (Value.bool _); congr 2; simp <;> omega), b0⟩
      | true =>
        have HN := Lib.hid hn
        by_cases h2 : 1 ≤ x
        · by_cases h3 : x ≤ 31
          · rw [k4 ⟨h1, h7⟩ hn ⟨h2, h3⟩]
            clear k1 k2 k3 k4 hn
            go_enter Tryz.func20, Tryz.ntmps20
            go_wp2_with (go_at_call 37; refine (refName_any _ HM.out _).mono ?_; rintro e w' ⟨rfl, rfl⟩; rw [HN.out])
            go_ret
            exact ⟨by first | rfl | (show Ending.returned (Value.bool _) = Ending.returned (Value.bool _); congr 2; simp <;> omega), b0⟩
          · rw [k3 (by omega)]
            clear k1 k2 k3 k4 hn
            go_enter Tryz.func20, Tryz.ntmps20
            go_wp2_with (go_at_call 37; refine (refName_any _ HM.out _).mono ?_; rintro e w' ⟨rfl, rfl⟩; rw [HN.out])
            go_ret
            exact ⟨by first | rfl | (show Ending.returned (Value.bool _) = Ending.returned (Value.bool _); congr 2; simp <;> omega), b0⟩
        · rw [k3 (by omega)]
          clear k1 k2 k3 k4 hn
          go_enter Tryz.func20, Tryz.ntmps20
          go_wp2_with (go_at_call 37; refine (refName_any _ HM.out _).mono ?_; rintro e w' ⟨rfl, rfl⟩; rw [HN.out])
          go_ret
          exact ⟨by first | rfl | (show Ending.returned (Value.bool _) = Ending.returned (Value.bool _); congr 2; simp <;> omega), b0⟩
    · have HR : Hid (decide (0 ≤ r ∧ r ≤ 7) = false) := decide_eq_false (by omega)
      rw [k1 (by omega)]
      clear k1 k2 k3 k4
      go_enter Tryz.func20, Tryz.ntmps20
      go_wp2_with (go_at_call 37; refine (refName_any _ HM.out _).mono ?_; rintro e w' ⟨rfl, rfl⟩; rw [HN.out])
      go_ret
      exact ⟨by first | rfl | (show Ending.returned (Value.bool _) = Ending.returned (Value.bool _); congr 2; simp <;> omega), b0⟩
  · rw [k1 (by omega)]
    clear k1 k2 k3 k4
    go_enter Tryz.func20, Tryz.ntmps20
    go_wp2_with (go_at_call 37; refine (refName_any _ HM.out _).mono ?_; rintro e w' ⟨rfl, rfl⟩; rw [HN.out])
    go_ret
    exact ⟨by first | rfl | (show Ending.returned (Value.bool _) = Ending.returned (Value.bool _); congr 2; simp <;> omega), b0⟩
end Go.Proofs.YtnhalfdddcjicaaGreat

namespace Go.Proofs.YtnhalfdddcjicaaGreat
open Go.RowKit

/-- Where a role and a table are in a list, or would be: what the search finds out of any list. -/
structure PlaceG (gs : List Gr) (r : Int) (t : List UInt8) (i : Nat) (b : Bool) : Prop where
  le : i ≤ gs.length
  yes : b = true → i < gs.length ∧ (atG gs i).role = r ∧ (atG gs i).table = t
  no : b = false → i < gs.length → ¬ ((atG gs i).role = r ∧ (atG gs i).table = t)
  low : 0 < i → ltK (atG gs (i - 1)).role (atG gs (i - 1)).table r t = true
  high : i < gs.length → ltK (atG gs i).role (atG gs i).table r t = false
def IsPlace (gs : List Gr) (r : Int) (t : List UInt8) (e : Ending) : Prop := ∃ (i : Nat) (b : Bool), e = .returned (.tuple #[.int .i64 (i : Int), .bool b]) ∧ PlaceG gs r t i b

theorem At.tri0 {w : World} {g : Nat} {t : TypeId} {x y z : Value} (h : At w g t #[x, y, z]) : w.cell? ⟨g, 0, none⟩ = some x ∧ w.cell? ⟨g, 1, none⟩ = some y ∧ w.cell? ⟨g, 2, none⟩ = some z := ⟨h.cell 0, h.cell 1, h.cell 2⟩
theorem mid_wrap {i j : Nat} (h : i + j ≤ 18446744073709551614) : IntKind.u64.wrap (IntKind.i64.wrap ((i : Int) + (j : Int))) = ((i + j : Nat) : Int) := by
  rw [IntKind.wrap_u64]
  simp [IntKind.wrap, IntKind.bits, IntKind.signed]
  omega

set_option maxRecDepth 100000 in
set_option maxHeartbeats 1600000 in
theorem bsearch_any (A : Option Addr) (n cap : Nat) (gs : List Gr) (r : Int) (t : List UInt8) (w : World) (hr : RowG w A n gs) (hn : n ≤ maxLen) :
    Calls Tryz.prog 103 #[.slice A n cap, .agg #[.int .i64 r, .string ⟨t.toArray⟩, .int .i64 0], .func (.func 59) #[] #[]] w fun e w' => IsPlace gs r t e ∧ Below w.heap.size w w' := by
  unfold maxLen at hn
  have hgl := hr.1
  go_enter Tryz.func103, Tryz.ntmps103
  go_wp2_with fail
  have aT := At.fresh w 50 #[.int .i64 r, .string ⟨t.toArray⟩, .int .i64 0]
  have b0 := below_box w (.cells #[.int .i64 r, .string ⟨t.toArray⟩, .int .i64 0] 50)
  go_loopw [9, 10] (fun iv jv wr => ∃ (i j : Nat), iv = .int .i64 i ∧ jv = .int .i64 j ∧ i ≤ j ∧ j ≤ n ∧ Hid (0 < i → ltK (atG gs (i - 1)).role (atG gs (i - 1)).table r t = true) ∧ Hid (j < n → ltK (atG gs j).role (atG gs j).table r t = false) ∧ At wr w.heap.size 50 #[.int .i64 r, .string ⟨t.toArray⟩, .int .i64 0] ∧ Below w.heap.size w wr) (fun iv jv _ => (intOf jv).toNat - (intOf iv).toNat)
  case atStart => exact ⟨0, n, rfl, rfl, by omega, by omega, show _ → _ from fun h => by omega, show _ → _ from fun h => by omega, aT, b0⟩
  case round =>
    obtain ⟨i, j, rfl, rfl, hij, hjn, HI, HJ, aTr, hbr⟩ := hrel
    clear aT b0
    by_cases hlt : i < j
    · have hij2 : ((i : Int) < (j : Int)) := by omega
      obtain ⟨z, hz⟩ : ∃ z, IntKind.i64.wrap ((i : Int) + (j : Int)) = z := ⟨_, rfl⟩
      obtain ⟨m, hm, hmn⟩ : ∃ m : Nat, m = (i + j) / 2 ∧ m < n := ⟨_, rfl, by omega⟩
      have hu : IntKind.u64.wrap z = ((i + j : Nat) : Int) := by
        rw [← hz]
        exact mid_wrap (by omega)
      have hm2 : ((i : Int) + (j : Int)) / 2 = (m : Int) := by omega
      have hmI : (m : Int) < (n : Int) := by omega
      obtain ⟨b, off, rfl, hbl, hcell⟩ := hr.2.2 (by omega)
      have hcl := (hcell m hmn).keep fun i => hbr.cell (p := ⟨b, i, none⟩) hbl
      have hc := fun w' => gcompare_any (atG gs m) ⟨r, t, 0⟩ w'
      have hneg := cmpRT_neg (r := (atG gs m).role) (t := (atG gs m).table) (r' := r) (t' := t)
      have hN1 : Hid (m = (i + j) / 2) := hm
      obtain ⟨t0, t1, t2⟩ := aTr.tri0
      obtain ⟨c0, c1, c2⟩ := hcl
      unfold Gr.val at hc
      clear hcell hm
      have HI2 : Hid (ltK (atG gs m).role (atG gs m).table r t = true → Hid (0 < m + 1 → ltK (atG gs (m + 1 - 1)).role (atG gs (m + 1 - 1)).table r t = true)) := by
        show _ → _
        intro h
        show _ → _
        rw [Nat.add_sub_cancel]
        exact fun _ => h
      have HJ2 : Hid (ltK (atG gs m).role (atG gs m).table r t = false → Hid (m < n → ltK (atG gs m).role (atG gs m).table r t = false)) := by
        show _ → _
        intro h
        show _ → _
        exact fun _ => h
      have HN := Lib.hid hneg
      clear hneg
      generalize cmpRT (atG gs m).role (atG gs m).table r t = C at *
      unfold atG at hc
      generalize gs.getD m default = g at hc c0 c1 c2
      go_wp2_with fail
      go_still_tail 6, (by kernel_rfl)
      change wpList _ _ _ _ _ wr.drew
      have hd : Below wr.heap.size wr wr.drew := (Below.refl _ _).drew
      go_wp2_with fail
      refine (hc _).mono ?_
      rintro e w2 ⟨rfl, b2⟩
      have b3 := below_in hd b2
      have hb2 := below_in hbr b3
      have aT2 := aTr.below b3 aTr.lt
      clear t0 t1 t2 c0 c1 c2 hc b2 b3 hd hbr aTr
      by_cases hC : C < 0
      · have hC' : decide (C < 0) = true := decide_eq_true hC
        have hK := HI2.out (HN.out.1 hC)
        clear HN HI2 HJ2
        go_wp2_with fail
        exact ⟨⟨m + 1, j, by go_num, rfl, by have := hN1.out; omega, by omega, hK, HJ, aT2, hb2⟩, by simp [intOf]; omega⟩
      · have hC' : decide (C < 0) = false := decide_eq_false hC
        have hK := HJ2.out (by
          cases hL : ltK (atG gs m).role (atG gs m).table r t with
          | false => rfl
          | true => exact absurd (HN.out.2 hL) hC)
        clear HN HI2 HJ2
        go_wp2_with fail
        exact ⟨⟨i, m, rfl, rfl, by have := hN1.out; omega, by omega, HI, hK, aT2, hb2⟩, by have := hN1.out; simp [intOf]; omega⟩
    · obtain rfl : i = j := by omega
      by_cases hin : i < n
      · obtain ⟨b, off, rfl, hbl, hcell⟩ := hr.2.2 (by omega)
        have hcl := (hcell i hin).keep fun i => hbr.cell (p := ⟨b, i, none⟩) hbl
        have hc := fun w' => gcompare_any (atG gs i) ⟨r, t, 0⟩ w'
        have hz := cmpRT_zero (r := (atG gs i).role) (t := (atG gs i).table) (r' := r) (t' := t)
        have hmI : (i : Int) < (n : Int) := by omega
        obtain ⟨t0, t1, t2⟩ := aTr.tri0
        obtain ⟨c0, c1, c2⟩ := hcl
        unfold Gr.val at hc
        have HP : Hid (∀ C : Int, (C = 0 ↔ (atG gs i).role = r ∧ (atG gs i).table = t) → PlaceG gs r t i (C == 0)) := by
          show ∀ _, _
          exact fun C hb => ⟨by omega, fun e => ⟨by omega, hb.1 (by simpa using e)⟩, fun e _ h => absurd (hb.2 h) (by simpa using e), HI.out, fun h => HJ.out (by omega)⟩
        have HP2 := Lib.hid (HP.out _ hz)
        clear hcell hz HP
        generalize cmpRT (atG gs i).role (atG gs i).table r t = C at *
        unfold atG at hc
        generalize gs.getD i default = g at hc c0 c1 c2
        have hbl2 : b < wr.heap.size := by have := hbr.size; omega
        have hd : Below wr.heap.size wr wr.drew := (Below.refl _ _).drew
        have HS : ∀ w2, Below wr.heap.size wr w2 → (w2.cell? ⟨w.heap.size, 0, none⟩ = some (.int .i64 r) ∧ w2.cell? ⟨w.heap.size, 1, none⟩ = some (.string ⟨t.toArray⟩) ∧ w2.cell? ⟨w.heap.size, 2, none⟩ = some (.int .i64 0)) ∧ w2.cell? ⟨b, off + i * 3, none⟩ = some (.int .i64 g.role) ∧ w2.cell? ⟨b, off + i * 3 + 1, none⟩ = some (.string ⟨g.table.toArray⟩) ∧ w2.cell? ⟨b, off + i * 3 + 2, none⟩ = some (.int .i64 g.bits) := fun w2 hb => ⟨(aTr.below hb aTr.lt).tri0, (hb.cell (p := ⟨b, _, none⟩) hbl2).trans c0, (hb.cell (p := ⟨b, _, none⟩) hbl2).trans c1, (hb.cell (p := ⟨b, _, none⟩) hbl2).trans c2⟩
        go_wp2_with fail
        go_region_held3 (fun w' => (w'.cell? ⟨w.heap.size, 0, none⟩ = some (.int .i64 r) ∧ w'.cell? ⟨w.heap.size, 1, none⟩ = some (.string ⟨t.toArray⟩) ∧ w'.cell? ⟨w.heap.size, 2, none⟩ = some (.int .i64 0)) ∧ w'.cell? ⟨b, off + i * 3, none⟩ = some (.int .i64 g.role) ∧ w'.cell? ⟨b, off + i * 3 + 1, none⟩ = some (.string ⟨g.table.toArray⟩) ∧ w'.cell? ⟨b, off + i * 3 + 2, none⟩ = some (.int .i64 g.bits))
          (first | exact ⟨⟨t0, t1, t2⟩, c0, c1, c2⟩ | exact S1)
          ((go_at_call 59; refine (hc wr.drew).mono ?_; rintro e w2 ⟨rfl, b2⟩; have b3 := below_in hd b2; have S1 := HS w2 b3; have hb2 := below_in hbr b3))
        all_goals
          go_wp2_with fail
          exact bodyPost_ret (v := .tuple #[.int .i64 (i : Int), .bool (C == 0)]) (by simp [results, Tryz.results103, go_sem]) rfl ⟨⟨i, C == 0, rfl, HP2.out⟩, hb2⟩
      · go_wp2_with fail
        go_quiet (fail)
        go_wp2_with fail
        refine bodyPost_ret (v := .tuple #[.int .i64 (i : Int), .bool false]) (by simp [results, Tryz.results103, go_sem]) rfl ⟨⟨i, false, rfl, ⟨by omega, fun e => (by cases e), fun _ h => absurd h (by omega), HI.out, fun h => absurd h (by omega)⟩⟩, below_nq hbr _⟩

set_option maxRecDepth 100000 in
set_option maxHeartbeats 800000 in
theorem gfind_any (A : Option Addr) (n cap : Nat) (gs : List Gr) (r : Int) (t : List UInt8) (w : World) (hr : RowG w A n gs) (hn : n ≤ maxLen) :
    Calls Tryz.prog 76 #[.slice A n cap, .int .i64 r, .string ⟨t.toArray⟩] w fun e w' => IsPlace gs r t e ∧ Below w.heap.size w w' := by
  go_enter Tryz.func76, Tryz.ntmps76
  go_wp2_with fail
  refine (bsearch_any A n cap gs r t w hr hn).mono ?_
  rintro e w2 ⟨⟨i, b, rfl, hp⟩, b2⟩
  go_wp2_with fail
  exact bodyPost_ret (v := .tuple #[.int .i64 (i : Int), .bool b]) (by simp [results, Tryz.results76, go_sem]) rfl ⟨⟨i, b, rfl, hp⟩, b2⟩

theorem heldG3 {w w' : World} {A : Nat} {t : TypeId} {a b c : Value} (h : At w A t #[a, b, c]) (hb : Below w.heap.size w w') :
    At w' A t #[a, b, c] ∧ (w'.cell? ⟨A, 0, none⟩ = some a ∧ w'.cell? ⟨A, 1, none⟩ = some b ∧ w'.cell? ⟨A, 2, none⟩ = some c) := by
  have hA := h.below hb h.lt
  exact ⟨hA, At.cell hA 0, At.cell hA 1, At.cell hA 2⟩
theorem getD_in2 {α : Type} [Inhabited α] {l : List α} {k : Nat} (h : k < l.length) : l.getD k default ∈ l := by simp [List.getElem?_eq_getElem h]
theorem gsorted_next {gs : List Gr} {k : Nat} (hk : k < gs.length) (h : ¬ ltG (atG gs (k - 1)) (atG gs k) = true) (h0 : 0 < k) : ¬ SortedG gs := fun hs => h (hs.2.2 k hk (k - 1) (by omega))
theorem sorted_bad {gs : List Gr} {k : Nat} (hk : k < gs.length) (h : goodG (atG gs k) = false) : ¬ SortedG gs := fun hs => by
  rw [hs.2.1 k hk] at h; cases h
theorem sorted_all {gs : List Gr} (hl : gs.length ≤ 64) (h1 : ∀ j, j < gs.length → goodG (atG gs j) = true) (h2 : ∀ j, j < gs.length → 0 < j → ltG (atG gs (j - 1)) (atG gs j) = true) : SortedG gs :=
  ⟨hl, h1, sorted_of_next fun j hj => by have := h2 (j + 1) hj (by omega); rw [Nat.add_sub_cancel] at this; exact this⟩

end Go.Proofs.YtnhalfdddcjicaaGreat
