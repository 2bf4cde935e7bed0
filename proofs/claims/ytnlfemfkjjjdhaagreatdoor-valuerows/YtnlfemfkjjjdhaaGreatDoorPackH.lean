/- The walks of package pack's Reader.Str, Bool and Many. -/
import Derived.Test.YtnlfemfkjjjdhaaGreatDoorPackC
namespace Go.Proofs.YtnlfemfkjjjdhaaGreatDoor
open Go.RowKit

theorem rstr_none (b : Nat) (l : List UInt8) (f : Bool) (w : World) (h : Rd w b l f) (hl : l.length ≤ maxLen) (hg : Hid (grp 0 0 l = none)) :
    Calls Tryz.prog 51 #[.pointer (some ⟨b, 0, none⟩)] w fun e w' => e = .returned (.string ⟨[].toArray⟩) ∧ Rd w' b [] true ∧ w.grownBy w' (some b) := by
  go_enter Tryz.func51, Tryz.ntmps51
  go_wp2_with fail
  refine (number_none b l f _ h hl hg).mono ?_
  rintro e w' ⟨rfl, h2, h3⟩
  go_wp2
  go_ret
  exact ⟨rfl, h2, h3⟩
theorem rstr_nil (w : World) :
    Calls Tryz.prog 51 #[.pointer none] w fun e w' => e = .returned (.string ⟨[].toArray⟩) ∧ w = w' := by
  go_enter Tryz.func51, Tryz.ntmps51
  go_wp2_with fail
  refine (number_nil _).mono ?_
  rintro e w' ⟨rfl, rfl⟩
  go_wp2
  go_ret
  exact ⟨rfl, rfl⟩
set_option maxRecDepth 100000 in
set_option maxHeartbeats 400000 in
theorem rstr_bad (b : Nat) (l : List UInt8) (f : Bool) (w : World) (h : Rd w b l f) (hl : l.length ≤ maxLen) (u k : Nat) (hg : Hid (grp 0 0 l = some (u, k))) (hbad : unzig u < 0 ∨ ((l.drop k).length : Int) < unzig u) :
    Calls Tryz.prog 51 #[.pointer (some ⟨b, 0, none⟩)] w fun e w' => e = .returned (.string ⟨[].toArray⟩) ∧ Rd w' b [] true ∧ w.grownBy w' (some b) := by
  have HB := Lib.hid hbad
  clear hbad
  go_enter Tryz.func51, Tryz.ntmps51
  go_wp2_with fail
  refine (number_some b l f _ h hl u k hg).mono ?_
  rintro e w1 ⟨rfl, h2, h3⟩
  have h0 : w1.cell? ⟨b, 0, none⟩ = some (.string ⟨(l.drop k).toArray⟩) := At.cell h2 0
  generalize l.drop k = r at *
  generalize unzig u = n at *
  by_cases hn : n < 0
  · go_wp2_with fail
    refine (fail_any b r f _ h2).mono ?_
    rintro e w2 ⟨rfl, h4, h5⟩
    go_wp2
    go_ret
    exact ⟨rfl, h4, grownBy_tr h3 h5⟩
  · have hn2 : (r.length : Int) < n := by rcases HB.out with h | h; exact absurd h hn; exact h
    go_wp2_with fail
    refine (fail_any b r f _ h2).mono ?_
    rintro e w2 ⟨rfl, h4, h5⟩
    go_wp2
    go_ret
    exact ⟨rfl, h4, grownBy_tr h3 h5⟩
set_option maxRecDepth 100000 in
set_option maxHeartbeats 400000 in
theorem rstr_ok (b : Nat) (l r : List UInt8) (f : Bool) (w : World) (h : Rd w b l f) (hl : l.length ≤ maxLen) (u k m : Nat) (hg : Hid (grp 0 0 l = some (u, k))) (hr : Hid (l.drop k = r)) (hm : Hid (unzig u = (m : Int))) (hm2 : m ≤ r.length) :
    Calls Tryz.prog 51 #[.pointer (some ⟨b, 0, none⟩)] w fun e w' => e = .returned (.string ⟨(r.take m).toArray⟩) ∧ Rd w' b (r.drop m) f ∧ w.grownBy w' (some b) := by
  have hrl : r.length ≤ 9223372036854775807 := by rw [← hr.out]; unfold maxLen at hl; simp; omega
  have hn : ¬ (m : Int) < 0 := by omega
  have hn2 : ¬ (r.length : Int) < m := by omega
  go_enter Tryz.func51, Tryz.ntmps51
  go_wp2_with fail
  refine (number_some b l f _ h hl u k hg).mono ?_
  rintro e w1 ⟨rfl, h2, h3⟩
  rw [hm.out]
  rw [hr.out] at h2
  have h0 : w1.cell? ⟨b, 0, none⟩ = some (.string ⟨r.toArray⟩) := At.cell h2 0
  have f0 := At.unfrozen h2 0
  clear hg hm hr
  go_wp2
  go_ret
  rw [extract_take, extract_drop]
  exact ⟨rfl, At.put h2 0 _, grownBy_tr h3 (grownBy_set _ _ _ _)⟩

theorem rmany_none (b : Nat) (l : List UInt8) (f : Bool) (bd : Int) (w : World) (h : Rd w b l f) (hl : l.length ≤ maxLen) (hg : Hid (grp 0 0 l = none)) :
    Calls Tryz.prog 45 #[.pointer (some ⟨b, 0, none⟩), .int .i64 bd] w fun e w' => e = .returned (.int .i64 0) ∧ Rd w' b [] true ∧ w.grownBy w' (some b) := by
  go_enter Tryz.func45, Tryz.ntmps45
  go_wp2_with fail
  refine (number_none b l f _ h hl hg).mono ?_
  rintro e w' ⟨rfl, h2, h3⟩
  go_wp2
  go_ret
  exact ⟨rfl, h2, h3⟩
theorem rmany_nil (bd : Int) (w : World) :
    Calls Tryz.prog 45 #[.pointer none, .int .i64 bd] w fun e w' => e = .returned (.int .i64 0) ∧ w = w' := by
  go_enter Tryz.func45, Tryz.ntmps45
  go_wp2_with fail
  refine (number_nil _).mono ?_
  rintro e w' ⟨rfl, rfl⟩
  go_wp2
  go_ret
  exact ⟨rfl, rfl⟩
set_option maxRecDepth 100000 in
set_option maxHeartbeats 400000 in
theorem rmany_bad (b : Nat) (l : List UInt8) (f : Bool) (bd : Int) (w : World) (h : Rd w b l f) (hl : l.length ≤ maxLen) (u k : Nat) (hg : Hid (grp 0 0 l = some (u, k)))
    (hbad : unzig u < 0 ∨ bd < unzig u ∨ ((l.drop k).length : Int) < unzig u) :
    Calls Tryz.prog 45 #[.pointer (some ⟨b, 0, none⟩), .int .i64 bd] w fun e w' => e = .returned (.int .i64 0) ∧ Rd w' b [] true ∧ w.grownBy w' (some b) := by
  have HB := Lib.hid hbad
  clear hbad
  go_enter Tryz.func45, Tryz.ntmps45
  go_wp2_with fail
  refine (number_some b l f _ h hl u k hg).mono ?_
  rintro e w1 ⟨rfl, h2, h3⟩
  have h0 : w1.cell? ⟨b, 0, none⟩ = some (.string ⟨(l.drop k).toArray⟩) := At.cell h2 0
  generalize l.drop k = r at *
  generalize unzig u = n at *
  by_cases hn : n < 0
  · go_wp2_with fail
    refine (fail_any b r f _ h2).mono ?_
    rintro e w2 ⟨rfl, h4, h5⟩
    go_wp2
    go_ret
    exact ⟨rfl, h4, grownBy_tr h3 h5⟩
  by_cases hn1 : bd < n
  · go_wp2_with fail
    refine (fail_any b r f _ h2).mono ?_
    rintro e w2 ⟨rfl, h4, h5⟩
    go_wp2
    go_ret
    exact ⟨rfl, h4, grownBy_tr h3 h5⟩
  · have hn2 : (r.length : Int) < n := by rcases HB.out with h | h | h; exact absurd h hn; exact absurd h hn1; exact h
    go_wp2_with fail
    refine (fail_any b r f _ h2).mono ?_
    rintro e w2 ⟨rfl, h4, h5⟩
    go_wp2
    go_ret
    exact ⟨rfl, h4, grownBy_tr h3 h5⟩
set_option maxRecDepth 100000 in
set_option maxHeartbeats 400000 in
theorem rmany_ok (b : Nat) (l r : List UInt8) (f : Bool) (bd n : Int) (w : World) (h : Rd w b l f) (hl : l.length ≤ maxLen) (u k : Nat) (hg : Hid (grp 0 0 l = some (u, k))) (hr : Hid (l.drop k = r)) (hu : Hid (unzig u = n))
    (hn : ¬ n < 0) (hn1 : ¬ bd < n) (hn2 : ¬ (r.length : Int) < n) :
    Calls Tryz.prog 45 #[.pointer (some ⟨b, 0, none⟩), .int .i64 bd] w fun e w' => e = .returned (.int .i64 n) ∧ Rd w' b r f ∧ w.grownBy w' (some b) := by
  go_enter Tryz.func45, Tryz.ntmps45
  go_wp2_with fail
  refine (number_some b l f _ h hl u k hg).mono ?_
  rintro e w1 ⟨rfl, h2, h3⟩
  rw [hu.out]
  rw [hr.out] at h2
  have h0 : w1.cell? ⟨b, 0, none⟩ = some (.string ⟨r.toArray⟩) := At.cell h2 0
  clear hg hu hr
  go_wp2
  go_ret
  exact ⟨rfl, h2, h3⟩
end Go.Proofs.YtnlfemfkjjjdhaaGreatDoor
