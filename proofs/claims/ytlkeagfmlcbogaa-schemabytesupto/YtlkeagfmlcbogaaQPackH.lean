/- The walks of package pack's Reader.Str, Bool and Many. -/
import Derived.Test.YtlkeagfmlcbogaaQPKa
namespace Go.Proofs.Ytlkeagfmlcbogaa
open Go.RowKit

theorem rstr_none (b : Nat) (l : List UInt8) (f : Bool) (w : World) (h : Rd w b l f) (hl : l.length ≤ maxLen) (hg : Hid (grp 0 0 l = none)) :
    Calls Try.prog 54 #[.pointer (some ⟨b, 0, none⟩)] w fun e w' => e = .returned (.string ⟨[].toArray⟩) ∧ Rd w' b [] true ∧ w.grownBy w' (some b) := by
  go_enter Try.func54, Try.ntmps54
  go_wp2_with fail
  refine (number_none b l f _ h hl hg).mono ?_
  rintro e w' ⟨rfl, h2, h3⟩
  go_wp2
  go_ret
  exact ⟨rfl, h2, h3⟩
theorem rstr_nil (w : World) :
    Calls Try.prog 54 #[.pointer none] w fun e w' => e = .returned (.string ⟨[].toArray⟩) ∧ w = w' := by
  go_enter Try.func54, Try.ntmps54
  go_wp2_with fail
  refine (number_nil _).mono ?_
  rintro e w' ⟨rfl, rfl⟩
  go_wp2
  go_ret
  exact ⟨rfl, rfl⟩
set_option maxRecDepth 100000 in
set_option maxHeartbeats 400000 in
theorem rstr_bad (b : Nat) (l : List UInt8) (f : Bool) (w : World) (h : Rd w b l f) (hl : l.length ≤ maxLen) (u k : Nat) (hg : Hid (grp 0 0 l = some (u, k))) (hbad : unzig u < 0 ∨ ((l.drop k).length : Int) < unzig u) :
    Calls Try.prog 54 #[.pointer (some ⟨b, 0, none⟩)] w fun e w' => e = .returned (.string ⟨[].toArray⟩) ∧ Rd w' b [] true ∧ w.grownBy w' (some b) := by
  have HB := Lib.hid hbad
  clear hbad
  go_enter Try.func54, Try.ntmps54
  go_wp2_with fail
  refine (number_some b l f _ h hl u k hg).mono ?_
  rintro e w1 ⟨rfl, h2, h3⟩
  have h0 : w1.cell? ⟨b, 0, none⟩ = some (.string ⟨(l.drop k).toArray⟩) := At.cell h2 0
  generalize l.drop k = r at *
  generalize unzig u = n at *
  by_cases hn : n < 0
  · go_wp2_with fail
    refine (fail_any b r f _ h2).mono ?_
    rintro e w2 ⟨rfl, h4, h5⟩
    go_wp2
    go_ret
    exact ⟨rfl, h4, grownBy_tr h3 h5⟩
  · have hn2 : (r.length : Int) < n := by rcases HB.out with h | h; exact absurd h hn; exact h
    go_wp2_with fail
    refine (fail_any b r f _ h2).mono ?_
    rintro e w2 ⟨rfl, h4, h5⟩
    go_wp2
    go_ret
    exact ⟨rfl, h4, grownBy_tr h3 h5⟩
set_option maxRecDepth 100000 in
set_option maxHeartbeats 400000 in
theorem rstr_ok (b : Nat) (l r : List UInt8) (f : Bool) (w : World) (h : Rd w b l f) (hl : l.length ≤ maxLen) (u k m : Nat) (hg : Hid (grp 0 0 l = some (u, k))) (hr : Hid (l.drop k = r)) (hm : Hid (unzig u = (m : Int))) (hm2 : m ≤ r.length) :
    Calls Try.prog 54 #[.pointer (some ⟨b, 0, none⟩)] w fun e w' => e = .returned (.string ⟨(r.take m).toArray⟩) ∧ Rd w' b (r.drop m) f ∧ w.grownBy w' (some b) := by
  have hrl : r.length ≤ 9223372036854775807 := by rw [← hr.out]; unfold maxLen at hl; simp; omega
  have hn : ¬ (m : Int) < 0 := by omega
  have hn2 : ¬ (r.length : Int) < m := by omega
  go_enter Try.func54, Try.ntmps54
  go_wp2_with fail
  refine (number_some b l f _ h hl u k hg).mono ?_
  rintro e w1 ⟨rfl, h2, h3⟩
  rw [hm.out]
  rw [hr.out] at h2
  have h0 : w1.cell? ⟨b, 0, none⟩ = some (.string ⟨r.toArray⟩) := At.cell h2 0
  have f0 := At.unfrozen h2 0
  clear hg hm hr
  go_wp2
  go_ret
  rw [extract_take, extract_drop]
  exact ⟨rfl, At.put h2 0 _, grownBy_tr h3 (grownBy_set _ _ _ _)⟩

theorem rbool_none (b : Nat) (l : List UInt8) (f : Bool) (w : World) (h : Rd w b l f) (hl : l.length ≤ maxLen) (hg : Hid (grp 0 0 l = none)) :
    Calls Try.prog 71 #[.pointer (some ⟨b, 0, none⟩)] w fun e w' => e = .returned (.bool false) ∧ Rd w' b [] true ∧ w.grownBy w' (some b) := by
  go_enter Try.func71, Try.ntmps71
  go_wp2_with fail
  refine (number_none b l f _ h hl hg).mono ?_
  rintro e w' ⟨rfl, h2, h3⟩
  go_wp2
  go_ret
  exact ⟨rfl, h2, h3⟩
theorem rbool_nil (w : World) :
    Calls Try.prog 71 #[.pointer none] w fun e w' => e = .returned (.bool false) ∧ w = w' := by
  go_enter Try.func71, Try.ntmps71
  go_wp2_with fail
  refine (number_nil _).mono ?_
  rintro e w' ⟨rfl, rfl⟩
  go_wp2
  go_ret
  exact ⟨rfl, rfl⟩
set_option maxRecDepth 100000 in
set_option maxHeartbeats 400000 in
theorem rbool_bad (b : Nat) (l : List UInt8) (f : Bool) (w : World) (h : Rd w b l f) (hl : l.length ≤ maxLen) (u k : Nat) (hg : Hid (grp 0 0 l = some (u, k))) (h0 : unzig u ≠ 0) (h1 : unzig u ≠ 1) :
    Calls Try.prog 71 #[.pointer (some ⟨b, 0, none⟩)] w fun e w' => e = .returned (.bool false) ∧ Rd w' b [] true ∧ w.grownBy w' (some b) := by
  go_enter Try.func71, Try.ntmps71
  go_wp2_with fail
  refine (number_some b l f _ h hl u k hg).mono ?_
  rintro e w1 ⟨rfl, h2, h3⟩
  have h0' : (unzig u != 0) = true := by simpa using h0
  have h1' : (unzig u != 1) = true := by simpa using h1
  clear h0 h1
  generalize l.drop k = r at *
  generalize unzig u = n at *
  go_wp2_with fail
  refine (fail_any b r f _ h2).mono ?_
  rintro e w2 ⟨rfl, h4, h5⟩
  go_wp2
  go_ret
  exact ⟨rfl, h4, grownBy_tr h3 h5⟩
set_option maxRecDepth 100000 in
set_option maxHeartbeats 400000 in
theorem rbool_ok (b : Nat) (l : List UInt8) (f x : Bool) (w : World) (h : Rd w b l f) (hl : l.length ≤ maxLen) (u k : Nat) (hg : Hid (grp 0 0 l = some (u, k))) (hx : Hid (unzig u = if x then 1 else 0)) :
    Calls Try.prog 71 #[.pointer (some ⟨b, 0, none⟩)] w fun e w' => e = .returned (.bool x) ∧ Rd w' b (l.drop k) f ∧ w.grownBy w' (some b) := by
  go_enter Try.func71, Try.ntmps71
  go_wp2_with fail
  refine (number_some b l f _ h hl u k hg).mono ?_
  rintro e w1 ⟨rfl, h2, h3⟩
  rw [hx.out]
  cases x with
  | true =>
    rw [if_pos rfl]
    go_wp2
    go_ret
    exact ⟨rfl, h2, h3⟩
  | false =>
    rw [if_neg (by decide)]
    go_wp2
    go_ret
    exact ⟨rfl, h2, h3⟩

theorem rmany_none (b : Nat) (l : List UInt8) (f : Bool) (bd : Int) (w : World) (h : Rd w b l f) (hl : l.length ≤ maxLen) (hg : Hid (grp 0 0 l = none)) :
    Calls Try.prog 53 #[.pointer (some ⟨b, 0, none⟩), .int .i64 bd] w fun e w' => e = .returned (.int .i64 0) ∧ Rd w' b [] true ∧ w.grownBy w' (some b) := by
  go_enter Try.func53, Try.ntmps53
  go_wp2_with fail
  refine (number_none b l f _ h hl hg).mono ?_
  rintro e w' ⟨rfl, h2, h3⟩
  go_wp2
  go_ret
  exact ⟨rfl, h2, h3⟩
theorem rmany_nil (bd : Int) (w : World) :
    Calls Try.prog 53 #[.pointer none, .int .i64 bd] w fun e w' => e = .returned (.int .i64 0) ∧ w = w' := by
  go_enter Try.func53, Try.ntmps53
  go_wp2_with fail
  refine (number_nil _).mono ?_
  rintro e w' ⟨rfl, rfl⟩
  go_wp2
  go_ret
  exact ⟨rfl, rfl⟩
set_option maxRecDepth 100000 in
set_option maxHeartbeats 400000 in
theorem rmany_bad (b : Nat) (l : List UInt8) (f : Bool) (bd : Int) (w : World) (h : Rd w b l f) (hl : l.length ≤ maxLen) (u k : Nat) (hg : Hid (grp 0 0 l = some (u, k)))
    (hbad : unzig u < 0 ∨ bd < unzig u ∨ ((l.drop k).length : Int) < unzig u) :
    Calls Try.prog 53 #[.pointer (some ⟨b, 0, none⟩), .int .i64 bd] w fun e w' => e = .returned (.int .i64 0) ∧ Rd w' b [] true ∧ w.grownBy w' (some b) := by
  have HB := Lib.hid hbad
  clear hbad
  go_enter Try.func53, Try.ntmps53
  go_wp2_with fail
  refine (number_some b l f _ h hl u k hg).mono ?_
  rintro e w1 ⟨rfl, h2, h3⟩
  have h0 : w1.cell? ⟨b, 0, none⟩ = some (.string ⟨(l.drop k).toArray⟩) := At.cell h2 0
  generalize l.drop k = r at *
  generalize unzig u = n at *
  by_cases hn : n < 0
  · go_wp2_with fail
    refine (fail_any b r f _ h2).mono ?_
    rintro e w2 ⟨rfl, h4, h5⟩
    go_wp2
    go_ret
    exact ⟨rfl, h4, grownBy_tr h3 h5⟩
  by_cases hn1 : bd < n
  · go_wp2_with fail
    refine (fail_any b r f _ h2).mono ?_
    rintro e w2 ⟨rfl, h4, h5⟩
    go_wp2
    go_ret
    exact ⟨rfl, h4, grownBy_tr h3 h5⟩
  · have hn2 : (r.length : Int) < n := by rcases HB.out with h | h | h; exact absurd h hn; exact absurd h hn1; exact h
    go_wp2_with fail
    refine (fail_any b r f _ h2).mono ?_
    rintro e w2 ⟨rfl, h4, h5⟩
    go_wp2
    go_ret
    exact ⟨rfl, h4, grownBy_tr h3 h5⟩
set_option maxRecDepth 100000 in
set_option maxHeartbeats 400000 in
theorem rmany_ok (b : Nat) (l r : List UInt8) (f : Bool) (bd n : Int) (w : World) (h : Rd w b l f) (hl : l.length ≤ maxLen) (u k : Nat) (hg : Hid (grp 0 0 l = some (u, k))) (hr : Hid (l.drop k = r)) (hu : Hid (unzig u = n))
    (hn : ¬ n < 0) (hn1 : ¬ bd < n) (hn2 : ¬ (r.length : Int) < n) :
    Calls Try.prog 53 #[.pointer (some ⟨b, 0, none⟩), .int .i64 bd] w fun e w' => e = .returned (.int .i64 n) ∧ Rd w' b r f ∧ w.grownBy w' (some b) := by
  go_enter Try.func53, Try.ntmps53
  go_wp2_with fail
  refine (number_some b l f _ h hl u k hg).mono ?_
  rintro e w1 ⟨rfl, h2, h3⟩
  rw [hu.out]
  rw [hr.out] at h2
  have h0 : w1.cell? ⟨b, 0, none⟩ = some (.string ⟨r.toArray⟩) := At.cell h2 0
  clear hg hu hr
  go_wp2
  go_ret
  exact ⟨rfl, h2, h3⟩
end Go.Proofs.Ytlkeagfmlcbogaa
