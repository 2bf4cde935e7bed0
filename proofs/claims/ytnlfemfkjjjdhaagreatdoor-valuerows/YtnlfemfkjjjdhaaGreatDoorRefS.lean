/- The walks of the reference's Reader, more: Str where it reads, Many (layer 1). -/
import Derived.Test.YtnlfemfkjjjdhaaGreatDoorRefR
namespace Go.Proofs.YtnlfemfkjjjdhaaGreatDoor
open Go.RowKit

set_option maxRecDepth 100000 in
set_option maxHeartbeats 400000 in
theorem rfs_ok (m : Nat) (l : List UInt8) (p q : Nat) (w : World) (h : Rf w m l p false) (hl : l.length ≤ 1000000) (hp : p ≤ l.length) (u k n : Nat) (hg : Hid (grp 0 0 (l.drop p) = some (u, k))) (hn : Hid (unzig u = (n : Int))) (hq : Hid (p + k = q)) (hq2 : q + n ≤ l.length) :
    Calls Tryz.prog 53 #[.pointer (some ⟨m, 0, none⟩)] w fun e w' => e = .returned (.string ⟨((l.drop q).take n).toArray⟩) ∧ Rf w' m l (q + n) false ∧ w.grownBy w' (some m) := by
  have w1 : IntKind.i64.wrap ((l.length : Int) - q) = (l.length : Int) - q := IntWalk.i64_in _ (by omega)
  have w2 : IntKind.i64.wrap ((q : Int) + n) = (q : Int) + n := IntWalk.i64_in _ (by omega)
  have w3 : IntKind.i64.wrap ((q : Int) + n - n) = (q : Int) := by rw [show (q : Int) + n - n = q by omega]; exact IntWalk.i64_in _ (by omega)
  have t1 : decide ((n : Int) < 0) = false := by simp
  have t2 : decide ((l.length : Int) - q < n) = false := by simp; omega
  have t3 : ¬ (l.length : Int) - q < n := by omega
  go_enter Tryz.func53, Tryz.ntmps53
  go_wp2_with fail
  refine (rf_some m l p w h hl hp u k n hg hn).mono ?_
  rintro e w1 ⟨rfl, h1, hg1⟩
  rw [hq.out] at h1
  have c0 : w1.cell? ⟨m, 0, none⟩ = some (.string ⟨l.toArray⟩) := At.cell h1 0
  have c1 : w1.cell? ⟨m, 1, none⟩ = some (.int .i64 q) := At.cell h1 1
  have c2 : w1.cell? ⟨m, 2, none⟩ = some (.bool false) := At.cell h1 2
  have f1 := At.unfrozen h1 1
  go_wp2_with fail
  go_quiet (fail)
  go_wp2_with fail
  go_quiet (fail)
  go_wp2_with fail
  go_ret
  rw [extract_mid]
  refine ⟨rfl, ?_, grownBy_tr hg1 (grownBy_tr (grownBy_draws _ _ _) (grownBy_tr (grownBy_set _ _ _ _) (grownBy_draws _ _ _)))⟩
  exact At.put (At.draws h1 _) 1 _

/-- The reference's Many. -/
theorem rfm_bad (m : Nat) (l : List UInt8) (p : Nat) (bd : Int) (w : World) (h : Rf w m l p true) (hl : l.length ≤ 1000000) (hp : p ≤ l.length) :
    Calls Tryz.prog 47 #[.pointer (some ⟨m, 0, none⟩), .int .i64 bd] w fun e w' => e = .returned (.int .i64 0) ∧ Rf w' m l p true ∧ w.grownBy w' (some m) := by
  have w1 : IntKind.i64.wrap ((l.length : Int) - p) = (l.length : Int) - p := IntWalk.i64_in _ (by omega)
  by_cases hb : bd < 0
  · have t2 : decide (bd < 0) = true := by simpa using hb
    go_enter Tryz.func47, Tryz.ntmps47
    go_wp2_with fail
    refine (rf_bad m l p w h).mono ?_
    rintro e w1 ⟨rfl, rfl⟩
    have c0 : w.cell? ⟨m, 0, none⟩ = some (.string ⟨l.toArray⟩) := At.cell h 0
    have c1 : w.cell? ⟨m, 1, none⟩ = some (.int .i64 p) := At.cell h 1
    have c2 : w.cell? ⟨m, 2, none⟩ = some (.bool true) := At.cell h 2
    have f2 := At.unfrozen h 2
    go_wp2_with fail
    go_quiet (fail)
    go_wp2_with fail
    go_ret
    exact ⟨rfl, At.put (At.draws h _) 2 _, grownBy_tr (grownBy_draws _ _ _) (grownBy_set _ _ _ _)⟩
  · have t2 : decide (bd < 0) = false := by simpa using hb
    have t3 : decide ((l.length : Int) - p < 0) = false := by simp; omega
    have t4 : ¬ (l.length : Int) - p < 0 := by omega
    go_enter Tryz.func47, Tryz.ntmps47
    go_wp2_with fail
    refine (rf_bad m l p w h).mono ?_
    rintro e w1 ⟨rfl, rfl⟩
    have c0 : w.cell? ⟨m, 0, none⟩ = some (.string ⟨l.toArray⟩) := At.cell h 0
    have c1 : w.cell? ⟨m, 1, none⟩ = some (.int .i64 p) := At.cell h 1
    have c2 : w.cell? ⟨m, 2, none⟩ = some (.bool true) := At.cell h 2
    go_wp2_with fail
    go_quiet (fail)
    go_wp2_with fail
    go_ret
    exact ⟨rfl, At.draws h _, grownBy_draws _ _ _⟩
theorem rfm_none (m : Nat) (l : List UInt8) (p : Nat) (bd : Int) (w : World) (h : Rf w m l p false) (hl : l.length ≤ 1000000) (hp : p ≤ l.length) (hg : Hid (grp 0 0 (l.drop p) = none)) :
    Calls Tryz.prog 47 #[.pointer (some ⟨m, 0, none⟩), .int .i64 bd] w fun e w' => e = .returned (.int .i64 0) ∧ Rf w' m l p true ∧ w.grownBy w' (some m) := by
  have w1 : IntKind.i64.wrap ((l.length : Int) - p) = (l.length : Int) - p := IntWalk.i64_in _ (by omega)
  by_cases hb : bd < 0
  · have t2 : decide (bd < 0) = true := by simpa using hb
    go_enter Tryz.func47, Tryz.ntmps47
    go_wp2_with fail
    refine (rf_none m l p w h hl hp hg).mono ?_
    rintro e w1 ⟨rfl, h1, hg1⟩
    have c0 : w1.cell? ⟨m, 0, none⟩ = some (.string ⟨l.toArray⟩) := At.cell h1 0
    have c1 : w1.cell? ⟨m, 1, none⟩ = some (.int .i64 p) := At.cell h1 1
    have c2 : w1.cell? ⟨m, 2, none⟩ = some (.bool true) := At.cell h1 2
    have f2 := At.unfrozen h1 2
    go_wp2_with fail
    go_quiet (fail)
    go_wp2_with fail
    go_ret
    exact ⟨rfl, At.put (At.draws h1 _) 2 _, grownBy_tr hg1 (grownBy_tr (grownBy_draws _ _ _) (grownBy_set _ _ _ _))⟩
  · have t2 : decide (bd < 0) = false := by simpa using hb
    have t3 : decide ((l.length : Int) - p < 0) = false := by simp; omega
    have t4 : ¬ (l.length : Int) - p < 0 := by omega
    go_enter Tryz.func47, Tryz.ntmps47
    go_wp2_with fail
    refine (rf_none m l p w h hl hp hg).mono ?_
    rintro e w1 ⟨rfl, h1, hg1⟩
    have c0 : w1.cell? ⟨m, 0, none⟩ = some (.string ⟨l.toArray⟩) := At.cell h1 0
    have c1 : w1.cell? ⟨m, 1, none⟩ = some (.int .i64 p) := At.cell h1 1
    have c2 : w1.cell? ⟨m, 2, none⟩ = some (.bool true) := At.cell h1 2
    go_wp2_with fail
    go_quiet (fail)
    go_wp2_with fail
    go_ret
    exact ⟨rfl, At.draws h1 _, grownBy_tr hg1 (grownBy_draws _ _ _)⟩
set_option maxRecDepth 100000 in
set_option maxHeartbeats 400000 in
theorem rfm_out (m : Nat) (l : List UInt8) (p q : Nat) (bd : Int) (w : World) (h : Rf w m l p false) (hl : l.length ≤ 1000000) (hp : p ≤ l.length) (u k : Nat) (n : Int) (hg : Hid (grp 0 0 (l.drop p) = some (u, k))) (hn : Hid (unzig u = n)) (hq : Hid (p + k = q)) (hq2 : q ≤ l.length) (hbad : n < 0 ∨ bd < n ∨ (l.length : Int) - q < n) :
    Calls Tryz.prog 47 #[.pointer (some ⟨m, 0, none⟩), .int .i64 bd] w fun e w' => e = .returned (.int .i64 0) ∧ Rf w' m l q true ∧ w.grownBy w' (some m) := by
  have w1 : IntKind.i64.wrap ((l.length : Int) - q) = (l.length : Int) - q := IntWalk.i64_in _ (by omega)
  by_cases hneg : n < 0
  · have t1 : decide (n < 0) = true := by simpa using hneg
    go_enter Tryz.func47, Tryz.ntmps47
    go_wp2_with fail
    refine (rf_some m l p w h hl hp u k n hg hn).mono ?_
    rintro e w1 ⟨rfl, h1, hg1⟩
    rw [hq.out] at h1
    have c0 : w1.cell? ⟨m, 0, none⟩ = some (.string ⟨l.toArray⟩) := At.cell h1 0
    have c1 : w1.cell? ⟨m, 1, none⟩ = some (.int .i64 q) := At.cell h1 1
    have c2 : w1.cell? ⟨m, 2, none⟩ = some (.bool false) := At.cell h1 2
    have f2 := At.unfrozen h1 2
    go_wp2_with fail
    go_quiet (fail)
    go_wp2_with fail
    go_ret
    exact ⟨rfl, At.put (At.draws h1 _) 2 _, grownBy_tr hg1 (grownBy_tr (grownBy_draws _ _ _) (grownBy_set _ _ _ _))⟩
  by_cases hbd : bd < n
  · have t1 : decide (n < 0) = false := by simpa using hneg
    have t2 : decide (bd < n) = true := by simpa using hbd
    go_enter Tryz.func47, Tryz.ntmps47
    go_wp2_with fail
    refine (rf_some m l p w h hl hp u k n hg hn).mono ?_
    rintro e w1 ⟨rfl, h1, hg1⟩
    rw [hq.out] at h1
    have c0 : w1.cell? ⟨m, 0, none⟩ = some (.string ⟨l.toArray⟩) := At.cell h1 0
    have c1 : w1.cell? ⟨m, 1, none⟩ = some (.int .i64 q) := At.cell h1 1
    have c2 : w1.cell? ⟨m, 2, none⟩ = some (.bool false) := At.cell h1 2
    have f2 := At.unfrozen h1 2
    go_wp2_with fail
    go_quiet (fail)
    go_wp2_with fail
    go_ret
    exact ⟨rfl, At.put (At.draws h1 _) 2 _, grownBy_tr hg1 (grownBy_tr (grownBy_draws _ _ _) (grownBy_set _ _ _ _))⟩
  · have t1 : decide (n < 0) = false := by simpa using hneg
    have t2 : decide (bd < n) = false := by simpa using hbd
    have t3 : decide ((l.length : Int) - q < n) = true := by simp; omega
    have t4 : (l.length : Int) - q < n := by omega
    go_enter Tryz.func47, Tryz.ntmps47
    go_wp2_with fail
    refine (rf_some m l p w h hl hp u k n hg hn).mono ?_
    rintro e w1 ⟨rfl, h1, hg1⟩
    rw [hq.out] at h1
    have c0 : w1.cell? ⟨m, 0, none⟩ = some (.string ⟨l.toArray⟩) := At.cell h1 0
    have c1 : w1.cell? ⟨m, 1, none⟩ = some (.int .i64 q) := At.cell h1 1
    have c2 : w1.cell? ⟨m, 2, none⟩ = some (.bool false) := At.cell h1 2
    have f2 := At.unfrozen h1 2
    go_wp2_with fail
    go_quiet (fail)
    go_wp2_with fail
    go_ret
    exact ⟨rfl, At.put (At.draws h1 _) 2 _, grownBy_tr hg1 (grownBy_tr (grownBy_draws _ _ _) (grownBy_set _ _ _ _))⟩
set_option maxRecDepth 100000 in
set_option maxHeartbeats 400000 in
theorem rfm_ok (m : Nat) (l : List UInt8) (p q : Nat) (bd : Int) (w : World) (h : Rf w m l p false) (hl : l.length ≤ 1000000) (hp : p ≤ l.length) (u k : Nat) (n : Int) (hg : Hid (grp 0 0 (l.drop p) = some (u, k))) (hn : Hid (unzig u = n)) (hq : Hid (p + k = q)) (hq2 : q ≤ l.length) (n0 : ¬ n < 0) (n1 : ¬ bd < n) (n2 : ¬ (l.length : Int) - q < n) :
    Calls Tryz.prog 47 #[.pointer (some ⟨m, 0, none⟩), .int .i64 bd] w fun e w' => e = .returned (.int .i64 n) ∧ Rf w' m l q false ∧ w.grownBy w' (some m) := by
  have w1 : IntKind.i64.wrap ((l.length : Int) - q) = (l.length : Int) - q := IntWalk.i64_in _ (by omega)
  have t1 : decide (n < 0) = false := by simpa using n0
  have t2 : decide (bd < n) = false := by simpa using n1
  have t3 : decide ((l.length : Int) - q < n) = false := by simp; omega
  go_enter Tryz.func47, Tryz.ntmps47
  go_wp2_with fail
  refine (rf_some m l p w h hl hp u k n hg hn).mono ?_
  rintro e w1 ⟨rfl, h1, hg1⟩
  rw [hq.out] at h1
  have c0 : w1.cell? ⟨m, 0, none⟩ = some (.string ⟨l.toArray⟩) := At.cell h1 0
  have c1 : w1.cell? ⟨m, 1, none⟩ = some (.int .i64 q) := At.cell h1 1
  have c2 : w1.cell? ⟨m, 2, none⟩ = some (.bool false) := At.cell h1 2
  go_wp2_with fail
  go_quiet (fail)
  go_wp2_with fail
  go_ret
  exact ⟨rfl, At.draws h1 _, grownBy_tr hg1 (grownBy_draws _ _ _)⟩
end Go.Proofs.YtnlfemfkjjjdhaaGreatDoor
