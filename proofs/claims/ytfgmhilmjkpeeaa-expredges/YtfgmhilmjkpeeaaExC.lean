/- The walks of what an operation does with values. -/
import Derived.Test.YtfgmhilmjkpeeaaExB
import Derived.Deep.RegionHeld3
namespace Go.Proofs.Ytfgmhilmjkpeeaa
open Go.RowKit

theorem isNull_any (v : Vl) (w : World) : Calls Try.prog 40 #[v.val] w fun e w' => e = .returned (.bool (decide (v.kind = 0))) ∧ Below w.heap.size w w' := by
  obtain ⟨k, n, t⟩ := v
  show Calls _ _ #[.agg #[.int .i64 k, .int .i64 n, .string ⟨t.toArray⟩]] w _
  go_enter Try.func40, Try.ntmps40
  go_wp2
  go_ret
  exact ⟨ret_b (by rw [Bool.eq_iff_iff]; simp), below_box _ _⟩
theorem int_any (n : Int) (w : World) : Calls Try.prog 46 #[.int .i64 n] w fun e w' => e = .returned (Vl.mk 1 n []).val ∧ Below w.heap.size w w' := by
  go_enter Try.func46, Try.ntmps46
  go_wp2
  refine bodyPost_ret (v := (Vl.mk 1 n []).val) (by simp [results, Try.results46, go_sem, Vl.val]) rfl ⟨rfl, below_box _ _⟩
theorem below_set3 {w w1 : World} {g : Nat} (h : Below w.heap.size w w1) (hg : w.heap.size ≤ g) (x y z : Value) : Below w.heap.size w (((w1.setCell ⟨g, 0, none⟩ x).setCell ⟨g, 1, none⟩ y).setCell ⟨g, 2, none⟩ z) :=
  ((h.setCell (p := ⟨g, 0, none⟩) hg x).setCell (p := ⟨g, 1, none⟩) hg y).setCell (p := ⟨g, 2, none⟩) hg z

theorem At.three {w : World} {g : Nat} {t : TypeId} {x y z : Value} (h : At w g t #[x, y, z]) : w.cell? ⟨g, 0, none⟩ = some x ∧ w.cell? ⟨g, 1, none⟩ = some y ∧ w.cell? ⟨g, 2, none⟩ = some z ∧
    w.frozen? ⟨g, 0, none⟩ = false ∧ w.frozen? ⟨g, 1, none⟩ = false ∧ w.frozen? ⟨g, 2, none⟩ = false := ⟨h.cell 0, h.cell 1, h.cell 2, h.unfrozen 0, h.unfrozen 1, h.unfrozen 2⟩
/-- The cells of a value. -/
def cs3 (k n : Int) (t : List UInt8) : Array Value := #[.int .i64 k, .int .i64 n, .string ⟨t.toArray⟩]
def z3 : Array Value := #[.int .i64 0, .int .i64 0, .string ⟨#[]⟩]

set_option maxHeartbeats 400000 in
theorem truth_any (b : Bool) (w : World) : Calls Try.prog 39 #[.bool b] w fun e w' => e = .returned (truthV b).val ∧ Below w.heap.size w w' := by
  have hb := below_box w (.cells z3 23)
  have hA := At.fresh w 23 z3
  have h1 := int_any 1
  have h0 := int_any 0
  unfold z3 at hA hb
  cases b
  · go_enter Try.func39, Try.ntmps39
    go_wp2_with fail
    refine (h0 _).mono ?_
    rintro e w1 ⟨rfl, b1⟩
    obtain ⟨c0, c1, c2, f0, f1, f2⟩ := (hA.below b1 hA.lt).three
    simp only [Vl.val]
    go_wp2_with fail
    refine bodyPost_ret (v := (truthV false).val) (by simp [results, Try.results39, go_sem, Vl.val, truthV, c0, c1, c2]) rfl ⟨rfl, below_set3 (below_in hb b1) (Nat.le_refl _) _ _ _⟩
  · go_enter Try.func39, Try.ntmps39
    go_wp2_with fail
    refine (h1 _).mono ?_
    rintro e w1 ⟨rfl, b1⟩
    obtain ⟨c0, c1, c2, f0, f1, f2⟩ := (hA.below b1 hA.lt).three
    simp only [Vl.val]
    go_wp2_with fail
    refine bodyPost_ret (v := (truthV true).val) (by simp [results, Try.results39, go_sem, Vl.val, truthV, c0, c1, c2]) rfl ⟨rfl, below_set3 (below_in hb b1) (Nat.le_refl _) _ _ _⟩

set_option maxHeartbeats 800000 in
theorem is_any (v : Vl) (s : Bool) (w : World) : Calls Try.prog 45 #[v.val, .bool s] w fun e w' => e = .returned (.bool (isV v s)) ∧ Below w.heap.size w w' := by
  have hn := isNull_any v
  obtain ⟨k, n, t⟩ := v
  have H : Hid (isV ⟨k, n, t⟩ s = (!decide (k = 0) && ((n != 0) == s))) := rfl
  show Calls _ _ #[.agg #[.int .i64 k, .int .i64 n, .string ⟨t.toArray⟩], .bool s] w _
  have hb := below_box w (.cells (cs3 k n t) 23)
  have hA := At.fresh w 23 (cs3 k n t)
  unfold cs3 at hA hb
  by_cases hk : k = 0
  · subst hk
    go_enter Try.func45, Try.ntmps45
    go_wp2_with fail
    refine (hn _).mono ?_
    rintro e w1 ⟨rfl, b1⟩
    go_wp2_with fail
    go_ret
    exact ⟨ret_b (by rw [H.out]; simp), below_in hb b1⟩
  · have hd : decide (k = 0) = false := by simpa using hk
    go_enter Try.func45, Try.ntmps45
    go_wp2_with fail
    refine (hn _).mono ?_
    rintro e w1 ⟨rfl, b1⟩
    obtain ⟨c0, c1, c2, f0, f1, f2⟩ := (hA.below b1 hA.lt).three
    cases hz : (n != 0) <;> cases s
    all_goals
      go_wp2_with fail
      go_ret
      exact ⟨ret_b (by rw [H.out, hd, hz]; rfl), below_in hb b1⟩

set_option maxHeartbeats 800000 in
theorem reqTruth_any (v : Vl) (w : World) : Calls Try.prog 44 #[v.val] w fun e w' => EndU (okTruth v) e ∧ Below w.heap.size w w' := by
  have hn := isNull_any v
  obtain ⟨k, n, t⟩ := v
  have H : Hid (okTruth ⟨k, n, t⟩ = decide (k = 0 ∨ k = 1)) := rfl
  show Calls _ _ #[.agg #[.int .i64 k, .int .i64 n, .string ⟨t.toArray⟩]] w _
  have hb := below_box w (.cells (cs3 k n t) 23)
  have hA := At.fresh w 23 (cs3 k n t)
  unfold cs3 at hA hb
  by_cases hk : k = 0
  · subst hk
    go_enter Try.func44, Try.ntmps44
    go_wp2_with fail
    refine (hn _).mono ?_
    rintro e w1 ⟨rfl, b1⟩
    go_wp2_with (go_at_call 31; refine (require_ok _ _).mono ?_; rintro e w' ⟨rfl, rfl⟩)
    go_end0
    exact ⟨by rw [H.out]; simp [EndU], below_in hb b1⟩
  · have hd : decide (k = 0) = false := by simpa using hk
    by_cases h1 : k = 1
    · subst h1
      go_enter Try.func44, Try.ntmps44
      go_wp2_with fail
      refine (hn _).mono ?_
      rintro e w1 ⟨rfl, b1⟩
      obtain ⟨c0, c1, c2, f0, f1, f2⟩ := (hA.below b1 hA.lt).three
      go_wp2_with (go_at_call 31; refine (require_ok _ _).mono ?_; rintro e w' ⟨rfl, rfl⟩)
      go_end0
      exact ⟨by rw [H.out]; simp [EndU], below_in hb b1⟩
    · have hd1 : (k == 1) = false := by simpa using h1
      go_enter Try.func44, Try.ntmps44
      go_wp2_with fail
      refine (hn _).mono ?_
      rintro e w1 ⟨rfl, b1⟩
      obtain ⟨c0, c1, c2, f0, f1, f2⟩ := (hA.below b1 hA.lt).three
      go_wp2_with (go_at_call 31; refine (require_no _ _).mono ?_; rintro e w' ⟨rfl, rfl⟩)
      exact ⟨rfl, by rw [H.out]; simp [EndU, hk, h1]; exact fails9, below_in hb b1⟩

set_option maxHeartbeats 800000 in
theorem numbers_any (op a b : Int) (w : World) : Calls Try.prog 50 #[.int .i64 op, .int .i64 a, .int .i64 b] w fun e w' => e = .returned (.int .i64 (numbersV op a b)) ∧ w = w' := by
  have H : Hid (numbersV op a b = if op = 9 then wrap64 (a + b) else wrap64 (a * b)) := rfl
  go_enter Try.func50, Try.ntmps50
  go_wp2
  all_goals
    go_ret
    exact ⟨ret_i (by rw [H.out]; simp_all), rfl⟩

theorem addF_any (a b : Int) (w : World) : Calls Try.prog 55 #[.int .i64 a, .int .i64 b] w fun e w' => e = .returned (.int .i64 (canonO (Ieee.double.add (wordOf a) (wordOf b)))) ∧ Below w.heap.size w w' := by
  cases h : Ieee.double.add (wordOf a) (wordOf b) with
  | none => exact (add_nan a b h w).mono fun _ _ ⟨h1, h2⟩ => ⟨h1, h2 ▸ (Below.refl _ _).drew⟩
  | some r => exact (add_num a b r h w).mono fun _ _ ⟨h1, h2⟩ => ⟨h1, h2 ▸ Below.refl _ _⟩
theorem mulF_any (a b : Int) (w : World) : Calls Try.prog 56 #[.int .i64 a, .int .i64 b] w fun e w' => e = .returned (.int .i64 (canonO (Ieee.double.mul (wordOf a) (wordOf b)))) ∧ Below w.heap.size w w' := by
  cases h : Ieee.double.mul (wordOf a) (wordOf b) with
  | none => exact (mul_nan a b h w).mono fun _ _ ⟨h1, h2⟩ => ⟨h1, h2 ▸ (Below.refl _ _).drew⟩
  | some r => exact (mul_num a b r h w).mono fun _ _ ⟨h1, h2⟩ => ⟨h1, h2 ▸ Below.refl _ _⟩

set_option maxHeartbeats 800000 in
theorem floats_any (op a b : Int) (w : World) : Calls Try.prog 49 #[.int .i64 op, .int .i64 a, .int .i64 b] w fun e w' => e = .returned (.int .i64 (floatsV op a b)) ∧ Below w.heap.size w w' := by
  have H : Hid (floatsV op a b = if op = 9 then canonO (Ieee.double.add (wordOf a) (wordOf b)) else canonO (Ieee.double.mul (wordOf a) (wordOf b))) := rfl
  by_cases h9 : op = 9
  · subst h9
    go_enter Try.func49, Try.ntmps49
    go_wp2_with fail
    refine (addF_any _ _ _).mono ?_
    rintro e w1 ⟨rfl, b1⟩
    go_wp2_with fail
    go_ret
    exact ⟨ret_i (by rw [H.out]; simp), b1⟩
  · have h9' : (op == 9) = false := by simpa using h9
    go_enter Try.func49, Try.ntmps49
    go_wp2_with fail
    refine (mulF_any _ _ _).mono ?_
    rintro e w1 ⟨rfl, b1⟩
    go_wp2_with fail
    go_ret
    exact ⟨ret_i (by rw [H.out]; simp [h9]), b1⟩

theorem cmpNaNi_any (a : Int) (w : World) :
    Calls Try.prog 59 #[.int .i64 a] w fun e w' => e = .returned (.bool false) ∧ w = w' := by
  go_enter Try.func59, Try.ntmps59
  go_wp2
  go_ret
  exact ⟨by simp, rfl⟩
set_option maxHeartbeats 800000 in
theorem cmpInt_any (a b : Int) (w : World) :
    Calls Try.prog 52 #[.int .i64 a, .int .i64 b] w fun e w' => e = .returned (.int .i64 (cmpInt a b)) ∧ w = w' := by
  have H : Hid (cmpInt a b = if a < b then -1 else if b < a then 1 else 0) := rfl
  go_enter Try.func52, Try.ntmps52
  go_wp2_with (go_at_call 59; refine (cmpNaNi_any _ _).mono ?_; rintro e w' ⟨rfl, rfl⟩)
  all_goals
    go_ret
    exact ⟨ret_i (by rw [H.out]; (repeat' split) <;> first | rfl | omega), rfl⟩
theorem cmpStr (a b : List UInt8) (w : World) : (callFunc 64 #[.string ⟨a.toArray⟩, .string ⟨b.toArray⟩]).run Try.prog w = .ok (.value (.int .i64 (Lib.compareBytes a b))) w := by
  rw [run_callFunc_extern Try.func64 (by kernel_rfl) (by kernel_rfl) (by kernel_rfl) (e := Extern.BytealgCompare.compare) (by rfl), Lib.run_compareString]
  rfl
set_option maxHeartbeats 800000 in
theorem strCompare_any (a b : List UInt8) (w : World) :
    Calls Try.prog 54 #[.string ⟨a.toArray⟩, .string ⟨b.toArray⟩] w fun e w' => e = .returned (.int .i64 (Lib.compareBytes a b)) ∧ w = w' := by
  have hc := cmpStr a b
  go_enter Try.func54, Try.ntmps54
  go_wp2
  go_ret
  exact ⟨rfl, rfl⟩
set_option maxRecDepth 100000 in
set_option maxHeartbeats 1600000 in
theorem vcompare_any (a b : Vl) (h : a.kind = b.kind) (w : World) :
    Calls Try.prog 48 #[a.val, b.val] w fun e w' => e = .returned (.int .i64 (cmpK a b)) ∧ Below w.heap.size w w' := by
  obtain ⟨k, n, t⟩ := a
  obtain ⟨j, m, s⟩ := b
  obtain rfl : k = j := h
  have H : Hid (cmpK ⟨k, n, t⟩ ⟨k, m, s⟩ = if k = 1 then cmpInt n m else if k = 2 then cmpI (keyI n) (keyI m) else Lib.compareBytes t s) := rfl
  have hb : Below w.heap.size w ((w.alloc (.cells (cs3 k n t) 23)).alloc (.cells (cs3 k m s) 23)) := (below_box w _).alloc (by simp) _
  unfold cs3 at hb
  show Calls _ _ #[.agg #[.int .i64 k, .int .i64 n, .string ⟨t.toArray⟩], .agg #[.int .i64 k, .int .i64 m, .string ⟨s.toArray⟩]] w _
  by_cases h1 : k = 1
  · subst h1
    go_enter Try.func48, Try.ntmps48
    go_wp2_with (go_at_call 52; refine (cmpInt_any _ _ _).mono ?_; rintro e w' ⟨rfl, rfl⟩)
    go_ret
    exact ⟨ret_i (by rw [H.out]; simp), hb⟩
  by_cases h2 : k = 2
  · subst h2
    go_enter Try.func48, Try.ntmps48
    go_wp2_with (go_at_call 53; refine (compare_any _ _ _).mono ?_; rintro e w' ⟨rfl, rfl⟩)
    go_ret
    exact ⟨ret_i (by rw [H.out]; simp), hb⟩
  · have h1' : (k == 1) = false := by simpa using h1
    have h2' : (k == 2) = false := by simpa using h2
    go_enter Try.func48, Try.ntmps48
    go_wp2_with (go_at_call 54; refine (strCompare_any _ _ _).mono ?_; rintro e w' ⟨rfl, rfl⟩)
    go_ret
    exact ⟨ret_i (by rw [H.out]; simp [h1, h2]), hb⟩
end Go.Proofs.Ytfgmhilmjkpeeaa
