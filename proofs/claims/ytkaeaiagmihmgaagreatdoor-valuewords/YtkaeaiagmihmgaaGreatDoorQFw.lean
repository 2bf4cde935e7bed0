/- The walks of strconv's scaling, for all numbers. -/
/- The walk of the scaling. -/
/- The walk of the shortest decimal. -/
/- The digits of the shortest decimal: their number, and their bytes. -/
import Derived.Test.YtkaeaiagmihmgaaGreatDoorQFp
import Derived.Test.YtkaeaiagmihmgaaGreatDoorQFmtA
import Derived.Deep.QuietTactic
import Derived.Laws.Wrap64
import Derived.WalkSmall
import Derived.Test.YtkaeaiagmihmgaaGreatDoorQInfo
import Derived.Test.YtkaeaiagmihmgaaGreatDoorQFmtB
namespace Go.Proofs.YtkaeaiagmihmgaaGreatDoor
open Go.RowKit

/-- The table of powers of ten lies in memory. -/
structure PowTab (w : World) : Prop where
  hi : ∀ i, i < 696 → w.cell? ⟨8, i * 2, none⟩ = some (.int .u64 ((Pinned.pow10Rows.getD i (0, 0)).1 : Nat))
  lo : ∀ i, i < 696 → w.cell? ⟨8, i * 2 + 1, none⟩ = some (.int .u64 ((Pinned.pow10Rows.getD i (0, 0)).2 : Nat))
theorem PowTab.below {w w' : World} (h : PowTab w) (hb : Below w.heap.size w w') : PowTab w' := by
  have hl := World.block_lt_of_cell? w _ (h.hi 0 (by omega))
  exact ⟨fun i hi => (hb.cell (p := ⟨8, i * 2, none⟩) hl).trans (h.hi i hi), fun i hi => (hb.cell (p := ⟨8, i * 2 + 1, none⟩) hl).trans (h.lo i hi)⟩
theorem PowTab.alloc {w : World} (h : PowTab w) (o : Obj) : PowTab (w.alloc o) := h.below ((Below.refl _ _).alloc (Nat.le_refl _) _)

set_option maxRecDepth 100000 in
set_option maxHeartbeats 800000 in
theorem prescale_any (w : World) (h : PowTab w) (i : Nat) (hi : i < 696) (e lp : Int) (he : -100000 ≤ e ∧ e ≤ 100000) (hlp : -100000 ≤ lp ∧ lp ≤ 100000) :
    Calls Tryz.prog 90 #[.pointer (some ⟨w.heap.size, 0, none⟩), .int .i64 e, .int .i64 ((i : Int) - 348), .int .i64 lp] (w.alloc (.cells #[.int .u64 0, .int .u64 0, .int .i64 0] 116)) fun x w' => x = .returned (.tuple #[]) ∧
      w.alloc (.cells #[.int .u64 ((Pinned.pow10Rows.getD i (0, 0)).1 : Nat), .int .u64 ((Pinned.pow10Rows.getD i (0, 0)).2 : Nat), .int .i64 (-(e + lp + 3))] 116) = w' := by
  have g1 := fun o => (h.alloc o).hi i hi
  have g2 := fun o => (h.alloc o).lo i hi
  have e1 : wrap64 ((i : Int) - 348 - -348) = (i : Int) := by unfold wrap64; omega
  have e2 : (i : Int) - 348 - -348 = (i : Int) := by omega
  have e3 : (i : Int) < 696 := by omega
  have e4 : wrap64 (-(e + lp + 3)) = -(e + lp + 3) := by unfold wrap64; omega
  clear h
  generalize (Pinned.pow10Rows.getD i (0, 0)).1 = ph at *
  generalize (Pinned.pow10Rows.getD i (0, 0)).2 = pl at *
  go_enter Tryz.func90, Tryz.ntmps90
  go_wp2
  go_end0
  exact ⟨rfl, rfl⟩

theorem and63_all : (List.range 64).all (fun s => bits .and .i64 (s : Int) 63 == (s : Int)) = true := by kernel_rfl
theorem and63_s {s : Nat} (h : s < 64) : bits .and .i64 (s : Int) 63 = (s : Int) := by
  have := List.all_eq_true.1 and63_all s (by simpa using h)
  simpa using this
theorem or1_od (q : Nat) (h : q < 18446744073709551616) : bits .or .u64 (q : Int) 1 = (od q : Int) := by
  rw [u64_or _ _ (by omega) (by omega) (by omega) (by omega)]
  simp only [Int.toNat_natCast, show (1 : Int).toNat = 1 from rfl]
  congr 1
  have e1 := Nat.or_mod_two_pow (a := q) (b := 1) (n := 1)
  have e2 := Nat.or_div_two_pow (a := q) (b := 1) (n := 1)
  simp only [Nat.pow_one] at e1 e2
  have e3 : q / 2 ||| 1 / 2 = q / 2 := by simp
  rw [e3] at e2
  have e4 : (q % 2 ||| 1 % 2) = 1 := by
    rcases Nat.mod_two_eq_zero_or_one q with h | h <;> rw [h] <;> decide
  rw [e4] at e1
  unfold od
  have := Nat.div_add_mod (q ||| 1) 2
  omega

end Go.Proofs.YtkaeaiagmihmgaaGreatDoor

namespace Go.Proofs.YtkaeaiagmihmgaaGreatDoor
open Go.RowKit

theorem mul64_nat (x y : Nat) (hx : x < 18446744073709551616) (hy : y < 18446744073709551616) (w : World) :
    Calls Tryz.prog 117 #[.int .u64 x, .int .u64 y] w fun e w' => ∃ h m : Nat, h = x * y / 18446744073709551616 ∧ m = x * y % 18446744073709551616 ∧ e = .returned (.tuple #[.int .u64 h, .int .u64 m]) ∧ w = w' := by
  refine (Tryz.bits_Mul64 x y hx hy w).mono ?_
  rintro e w' ⟨rfl, rfl⟩
  exact ⟨_, _, rfl, rfl, by simp, rfl⟩
theorem bool2u_1 (b : Bool) (hb : b = true) (w : World) : Calls Tryz.prog 118 #[.bool b] w fun e w' => e = .returned (.int .u64 1) ∧ w = w' := by
  subst hb
  go_enter Tryz.func118, Tryz.ntmps118
  go_wp2
  go_ret
  exact ⟨rfl, rfl⟩
theorem bool2u_0 (b : Bool) (hb : b = false) (w : World) : Calls Tryz.prog 118 #[.bool b] w fun e w' => e = .returned (.int .u64 0) ∧ w = w' := by
  subst hb
  go_enter Tryz.func118, Tryz.ntmps118
  go_wp2
  go_ret
  exact ⟨rfl, rfl⟩

set_option maxRecDepth 100000 in
set_option maxHeartbeats 1600000 in
theorem uscale_any (w : World) (b : Nat) (x hi lo s : Nat) (c0 : w.cell? ⟨b, 0, none⟩ = some (.int .u64 hi)) (c1 : w.cell? ⟨b, 1, none⟩ = some (.int .u64 lo)) (c2 : w.cell? ⟨b, 2, none⟩ = some (.int .i64 s))
    (hx : x < 18446744073709551616) (hhi : hi < 18446744073709551616) (hlo : lo < 18446744073709551616) (hs : s < 64) (hh : 0 < x * hi / 18446744073709551616) :
    Calls Tryz.prog 92 #[.int .u64 x, .pointer (some ⟨b, 0, none⟩)] w fun e w' => e = .returned (.int .u64 (usc x hi lo s : Nat)) ∧ ∃ nd, w.drewN nd = w' := by
  have fa := and63_s hs
  have hhl : x * hi / 18446744073709551616 < 18446744073709551616 := by
    have := mul_lt64 hx hhi; omega
  have hml : x * lo / 18446744073709551616 < 18446744073709551615 := by
    have := mul_lt64 hx hlo; omega
  generalize hr : usc x hi lo s = r
  have H1 := Lib.hid (mul64_nat x hi hx hhi)
  have H2 := Lib.hid (mul64_nat x lo hx hlo)
  go_enter Tryz.func92, Tryz.ntmps92
  go_wp2_with fail
  refine (H1.out _).mono ?_
  rintro e w' ⟨h, m, eh, em, rfl, rfl⟩
  have em' : m < 18446744073709551616 := by rw [em]; exact Nat.mod_lt _ (by omega)
  unfold usc at hr
  rw [← eh, ← em] at hr
  rw [← eh] at hhl hh
  clear eh em H1
  have hw : IntKind.u64.wrap ((h : Int) / 2 ^ s * 2 ^ s) = (h / 2 ^ s * 2 ^ s : Nat) := by
    have h1 := Nat.div_mul_le_self h (2 ^ s)
    have h2 : ((h : Int) / 2 ^ s * 2 ^ s) = (h / 2 ^ s * 2 ^ s : Nat) := by simp
    rw [h2]
    generalize h / 2 ^ s * 2 ^ s = k at *
    rw [IntKind.wrap_u64]; omega
  by_cases hz : h % 2 ^ s = 0
  · have t1 : (IntKind.u64.wrap ((h : Int) / 2 ^ s * 2 ^ s) != (h : Int)) = false := by
      have := Nat.div_add_mod h (2 ^ s)
      rw [hw]
      simp only [bne_eq_false_iff_eq, Int.natCast_inj]
      rw [Nat.mul_comm]; omega
    rw [if_neg (by simpa using hz)] at hr
    have HR := Lib.hid hr
    clear hr hz hw
    go_wp2_with fail
    refine (H2.out _).mono ?_
    rintro e w' ⟨m2, m3, e2, -, rfl, rfl⟩
    rw [← e2] at hml
    have hr := HR.out
    rw [← e2] at hr
    clear e2 HR H2
    by_cases hc : m < m2
    · have t2 : decide ((m : Int) < (m2 : Int)) = true := by simp; omega
      have t3 : decide (IntKind.u64.wrap ((m : Int) - (m2 : Int)) > 1) = true := by
        rw [IntKind.wrap_u64]; simp; omega
      have t3' : decide (1 < IntKind.u64.wrap ((m : Int) - (m2 : Int))) = true := t3
      rw [if_pos hc] at hr
      have t4 : bits .or .u64 (((h : Int) - 1) / 2 ^ s) 1 = (r : Int) := by
        rw [← hr, ← or1_od _ (Nat.lt_of_le_of_lt (Nat.div_le_self _ _) (by omega))]
        congr 1
        rw [Int.natCast_ediv]
        congr 1
        omega
      clear hr
      go_wp2_with (go_at_call 118; refine (bool2u_1 _ (by first | rfl | assumption) _).mono ?_; rintro e w' ⟨rfl, rfl⟩)
      go_quiet ((go_at_call 118; refine Calls.quiet_of_same ((bool2u_1 _ (by first | rfl | assumption) _).mono fun _ _ h => ⟨h.1, h.2.symm⟩)))
      go_wp2
      go_ret
      exact ⟨by simp, _, rfl⟩
    · rw [if_neg hc] at hr
      have t2 : decide ((m : Int) < (m2 : Int)) = false := by simp; omega
      by_cases hd : m ≤ m2 + 1
      · have t3 : decide (1 < IntKind.u64.wrap ((m : Int) - (m2 : Int))) = false := by
          rw [IntKind.wrap_u64]; simp; omega
        rw [if_pos hd] at hr
        have t4 : bits .or .u64 ((h : Int) / 2 ^ s) 0 = (r : Int) := by
          have e1 : (h : Int) / 2 ^ s = (r : Int) := by rw [← hr]; simp
          have e2 : r < 18446744073709551616 := by rw [← hr]; exact Nat.lt_of_le_of_lt (Nat.div_le_self _ _) hhl
          rw [e1, u64_or _ _ (by omega) (by omega) (by omega) (by omega)]
          simp
        clear hr
        go_wp2_with (go_at_call 118; refine (bool2u_0 _ (by first | rfl | assumption) _).mono ?_; rintro e w' ⟨rfl, rfl⟩)
        go_quiet ((go_at_call 118; refine Calls.quiet_of_same ((bool2u_0 _ (by first | rfl | assumption) _).mono fun _ _ h => ⟨h.1, h.2.symm⟩)))
        go_wp2
        go_ret
        exact ⟨by simp, _, rfl⟩
      · have t3 : decide (1 < IntKind.u64.wrap ((m : Int) - (m2 : Int))) = true := by
          rw [IntKind.wrap_u64]; simp; omega
        rw [if_neg hd] at hr
        have t4 : bits .or .u64 ((h : Int) / 2 ^ s) 1 = (r : Int) := by
          rw [← hr, ← or1_od _ (Nat.lt_of_le_of_lt (Nat.div_le_self _ _) (by omega))]
          simp
        clear hr
        go_wp2_with (go_at_call 118; refine (bool2u_0 _ (by first | rfl | assumption) _).mono ?_; rintro e w' ⟨rfl, rfl⟩)
        go_quiet ((go_at_call 118; refine Calls.quiet_of_same ((bool2u_1 _ (by first | rfl | assumption) _).mono fun _ _ h => ⟨h.1, h.2.symm⟩)))
        go_wp2
        go_ret
        exact ⟨by simp, _, rfl⟩
  · have t1 : (IntKind.u64.wrap ((h : Int) / 2 ^ s * 2 ^ s) != (h : Int)) = true := by
      have := Nat.div_add_mod h (2 ^ s)
      rw [hw]
      simp only [bne_iff_ne, ne_eq, Int.natCast_inj]
      rw [Nat.mul_comm]; omega
    rw [if_pos hz] at hr
    have t4 : bits .or .u64 ((h : Int) / 2 ^ s) 1 = (r : Int) := by
      rw [← hr, ← or1_od _ (Nat.lt_of_le_of_lt (Nat.div_le_self _ _) (by omega))]
      simp
    clear hr hz hw
    go_wp2_with fail
    go_ret
    exact ⟨by simp, 0, rfl⟩
end Go.Proofs.YtkaeaiagmihmgaaGreatDoor

namespace Go.Proofs.YtkaeaiagmihmgaaGreatDoor
open Go.RowKit

theorem log10_any (x : Int) (h1 : -10000 ≤ x) (h2 : x ≤ 10000) (w : World) : Calls Tryz.prog 65 #[.int .i64 x] w fun e w' => e = .returned (.int .i64 (lgTen x)) ∧ w = w' := by
  go_enter Tryz.func65, Tryz.ntmps65
  go_wp2
  go_ret
  exact ⟨rfl, rfl⟩
theorem log2_any (x : Int) (h1 : -10000 ≤ x) (h2 : x ≤ 10000) (w : World) : Calls Tryz.prog 91 #[.int .i64 x] w fun e w' => e = .returned (.int .i64 (lg x)) ∧ w = w' := by
  go_enter Tryz.func91, Tryz.ntmps91
  go_wp2
  go_ret
  exact ⟨rfl, rfl⟩
theorem skewed_any (x : Int) (h1 : -10000 ≤ x) (h2 : x ≤ 10000) (w : World) : Calls Tryz.prog 89 #[.int .i64 x] w fun e w' => e = .returned (.int .i64 (skew x)) ∧ w = w' := by
  go_enter Tryz.func89, Tryz.ntmps89
  go_wp2
  go_ret
  exact ⟨rfl, rfl⟩
theorem nudge_up (x c : Nat) (hx : x < 9223372036854775808) (hc : c ≤ 1) (w : World) : Calls Tryz.prog 93 #[.int .u64 x, .int .i64 c] w fun e w' => e = .returned (.int .u64 (x + c : Nat)) ∧ w = w' := by
  go_enter Tryz.func93, Tryz.ntmps93
  go_wp2
  go_ret
  exact ⟨by simp, rfl⟩
theorem nudge_down (x c : Nat) (hx : x < 9223372036854775808) (hc : c ≤ 1) (hcx : c ≤ x) (w : World) : Calls Tryz.prog 93 #[.int .u64 x, .int .i64 (-(c : Int))] w fun e w' => e = .returned (.int .u64 (x - c : Nat)) ∧ w = w' := by
  have e1 : IntKind.u64.wrap ((x : Int) + IntKind.u64.wrap (-(c : Int))) = ((x - c : Nat) : Int) := by
    rw [IntKind.wrap_u64, IntKind.wrap_u64]; omega
  go_enter Tryz.func93, Tryz.ntmps93
  go_wp2
  go_ret
  exact ⟨by simp, rfl⟩
theorem ceil_any (x : Nat) (hx : x < 9223372036854775808) (w : World) : Calls Tryz.prog 94 #[.int .u64 x] w fun e w' => e = .returned (.int .u64 ((x + 3) / 4 : Nat)) ∧ w = w' := by
  go_enter Tryz.func94, Tryz.ntmps94
  go_wp2
  go_ret
  exact ⟨by simp, rfl⟩
theorem floor_any (x : Nat) (hx : x < 9223372036854775808) (w : World) : Calls Tryz.prog 95 #[.int .u64 x] w fun e w' => e = .returned (.int .u64 (x / 4 : Nat)) ∧ w = w' := by
  go_enter Tryz.func95, Tryz.ntmps95
  go_wp2
  go_ret
  exact ⟨by simp, rfl⟩
theorem and1_u64 (x : Nat) (hx : x < 18446744073709551616) : bits .and .u64 (x : Int) 1 = ((x % 2 : Nat) : Int) := by
  rw [u64_and _ _ (by omega) (by omega) (by omega) (by omega)]
  simp [Nat.and_one_is_mod]
theorem round_any (x : Nat) (hx : x < 9223372036854775808) (w : World) : Calls Tryz.prog 96 #[.int .u64 x] w fun e w' => e = .returned (.int .u64 (rnd x : Nat)) ∧ w = w' := by
  have e1 : bits .and .u64 ((x : Int) / 4) 1 = ((x / 4 % 2 : Nat) : Int) := and1_u64 (x / 4) (by omega)
  go_enter Tryz.func96, Tryz.ntmps96
  go_wp2
  go_ret
  exact ⟨by simp [rnd], rfl⟩

/-- What the tail of the walk needs of the scaler that lies in memory. -/
theorem h_pos {x hi : Nat} (hx : 2 ≤ x) (hh : 9223372036854775808 ≤ hi) : 0 < x * hi / 18446744073709551616 := by
  have : 2 * 9223372036854775808 ≤ x * hi := Nat.mul_le_mul hx hh
  omega
theorem usc_lt {x hi lo s : Nat} (hx : x < 18446744073709551616) (hhi : hi < 18446744073709551616) (hs : 2 ≤ s) : usc x hi lo s < 9223372036854775800 := by
  have h1 : x * hi / 18446744073709551616 < 18446744073709551616 := by
    have := mul_lt64 hx hhi; omega
  have h2 : ∀ k, k < 18446744073709551616 → k / 2 ^ s ≤ 4611686018427387904 := fun k hk => by
    have h3 : 2 ^ 2 ≤ 2 ^ s := Nat.pow_le_pow_right (by omega) hs
    have h4 : k / 2 ^ s ≤ k / 2 ^ 2 := Nat.div_le_div_left h3 (by decide)
    have h5 : k / 2 ^ 2 ≤ 4611686018427387904 := by omega
    exact Nat.le_trans h4 h5
  unfold usc od
  have k1 := h2 _ h1
  have k2 := h2 (x * hi / 18446744073709551616 - 1) (by omega)
  split
  · omega
  · split
    · omega
    · split <;> omega
/-- The pick, told by its numbers. -/
theorem shortN_is {m : Nat} {e p : Int} {t mn mx c : Nat} (eP : shP m e = p) (eS : shS m e = t) (eMin : shMin m e = mn) (eMax : shMax m e = mx) (eC : shC m e = c) :
    shortN m e = if (uscP mn p t + c + 3) / 4 ≤ (uscP mx p t - c) / 4 / 10 * 10 then ((uscP mx p t - c) / 4 / 10, -(p - 1)) else if (uscP mn p t + c + 3) / 4 < (uscP mx p t - c) / 4 then (rnd (uscP m p t), -p) else ((uscP mn p t + c + 3) / 4, -p) := by
  unfold shortN shPick pick
  rw [eP, eS, eMin, eMax, eC]
  split
  · simp
  · split <;> simp
set_option maxRecDepth 100000 in
set_option maxHeartbeats 1600000 in
theorem shortFloat_A (w : World) (h : PowTab w) (e : Int) (he1 : -1085 < e) (he2 : e ≤ 960) :
    Calls Tryz.prog 70 #[.int .u64 9223372036854775808, .int .i64 e] w fun x w' => x = .returned (.tuple #[.int .u64 (shortN topM e).1, .int .i64 (shortN topM e).2]) ∧ Below w.heap.size w w' := by
  have cd := cbits_d
  have c0 := allFrom_at chkA_all (e := e) (by omega) (by omega)
  unfold chkA at c0
  simp only [Bool.and_eq_true, decide_eq_true_eq] at c0
  obtain ⟨⟨⟨⟨c1, c2⟩, c3⟩, -⟩, -⟩ := c0
  have eP : shP topM e = -skew (e + 11) := by unfold shP; rw [if_pos ⟨rfl, he1⟩]
  have eMin : shMin topM e = 9223372036854775296 := by unfold shMin; rw [if_pos ⟨rfl, he1⟩]; rfl
  have eMax : shMax topM e = 9223372036854776832 := by unfold shMax; rw [if_pos ⟨rfl, he1⟩]; rfl
  have eC : shC topM e = 0 := by unfold shC; rw [if_pos (by omega)]; decide
  have hs0 : -(e + lg (-skew (e + 11)) + 3) ≤ 60 := by unfold lg skew; omega
  obtain ⟨i, hp⟩ : ∃ i : Nat, -skew (e + 11) = (i : Int) - 348 := ⟨(-skew (e + 11) + 348).toNat, by omega⟩
  rw [hp] at eP c1 c2 c3 hs0
  have hi : i < 696 := by omega
  have hpw : wrap64 (-skew (e + 11)) = (i : Int) - 348 := by rw [hp]; unfold wrap64; omega
  obtain ⟨t, ht⟩ : ∃ t : Nat, -(e + lg ((i : Int) - 348) + 3) = (t : Int) := ⟨(-(e + lg ((i : Int) - 348) + 3)).toNat, by omega⟩
  have eS : shS topM e = t := by unfold shS; rw [eP]; omega
  have hrow0 := row_facts c2 c3
  have hR := shortN_is eP eS eMin eMax eC
  generalize shortN topM e = r at *
  unfold uscP at hR
  rw [show (tenRow ((i : Int) - 348)) = Pinned.pow10Rows.getD i (0, 0) by unfold tenRow; congr 1; omega] at hR hrow0
  obtain ⟨lp, hlp⟩ : ∃ lp, lg ((i : Int) - 348) = lp := ⟨_, rfl⟩
  obtain ⟨hr1, hr2, hr3, -, -⟩ := hrow0
  rw [hlp] at ht c1 hs0
  have PRE := prescale_any w h i hi e lp (by omega) (by omega)
  rw [ht] at PRE
  generalize (Pinned.pow10Rows.getD i (0, 0)).1 = ph at *
  generalize (Pinned.pow10Rows.getD i (0, 0)).2 = pl at *
  have hc : ∀ (k : Nat) (v : Value), (#[Value.int .u64 ph, .int .u64 pl, .int .i64 t] : Array Value)[k]? = some v → (w.alloc (.cells #[.int .u64 ph, .int .u64 pl, .int .i64 t] 116)).cell? ⟨w.heap.size, k, none⟩ = some v := fun k v hk => by
    rw [← hk]; exact (At.fresh w _ _).cell k
  have US : ∀ (x : Nat), 2 ≤ x → x < 18446744073709551616 → ∀ n, Calls Tryz.prog 92 #[.int .u64 x, .pointer (some ⟨w.heap.size, 0, none⟩)] ((w.alloc (.cells #[.int .u64 ph, .int .u64 pl, .int .i64 t] 116)).drewN n) fun e w' => e = .returned (.int .u64 (usc x ph pl t : Nat)) ∧ ∃ nd, ((w.alloc (.cells #[.int .u64 ph, .int .u64 pl, .int .i64 t] 116)).drewN n).drewN nd = w' := fun x hx2 hx n =>
    uscale_any _ w.heap.size x ph pl t (hc 0 _ rfl) (hc 1 _ rfl) (hc 2 _ rfl) hx hr1 hr3 (by omega) (h_pos hx2 hr2)
  have UL : ∀ (x : Nat), x < 18446744073709551616 → usc x ph pl t < 9223372036854775800 := fun x hx => usc_lt hx hr1 (by omega)
  have hW : Below w.heap.size w (w.alloc (.cells #[.int .u64 ph, .int .u64 pl, .int .i64 t] 116)) := (Below.refl _ _).alloc (Nat.le_refl _) _
  have UM := US 9223372036854775296 (by omega) (by omega)
  have UX := US 9223372036854776832 (by omega) (by omega)
  have UU := US topM (by decide) (by decide)
  have LM := UL 9223372036854775296 (by omega)
  have LX := UL 9223372036854776832 (by omega)
  have LU := UL topM (by decide)
  have CX : 0 ≤ usc 9223372036854776832 ph pl t := Nat.zero_le _
  generalize usc 9223372036854775296 ph pl t = um at *
  generalize usc 9223372036854776832 ph pl t = ux at *
  generalize usc topM ph pl t = uu at *
  have UM0 := Lib.hid UM
  have UX0 := Lib.hid UX
  have UU0 := Lib.hid UU
  have PRE0 := Lib.hid PRE
  have hW0 := Lib.hid hW
  have HR := Lib.hid hR
  clear UM UX UU PRE hW US UL hR hc hr1 hr2 hr3 eP eS eMin eMax eC h
  generalize hWW : w.alloc (.cells #[.int .u64 ph, .int .u64 pl, .int .i64 t] 116) = W at *
  clear hWW
  go_enter Tryz.func70, Tryz.ntmps70
  go_wp2_with (first | (go_at_call 89; refine (skewed_any _ (by omega) (by omega) _).mono ?_; rintro e w' ⟨rfl, rfl⟩) | (go_at_call 65; refine (log10_any _ (by omega) (by omega) _).mono ?_; rintro e w' ⟨rfl, rfl⟩) | (go_at_call 91; refine (log2_any _ (by omega) (by omega) _).mono ?_; rintro e w' ⟨rfl, rfl⟩))
  refine PRE0.out.mono ?_
  rintro e w1 ⟨rfl, rfl⟩
  go_wp2_with fail
  refine (UM0.out 0).mono ?_
  rintro e w1 ⟨rfl, n1, rfl⟩
  go_wp2_with (first | (go_at_call 93; refine (nudge_up um 0 (by omega) (by omega) _).mono ?_; rintro e w' ⟨rfl, rfl⟩) | (go_at_call 94; refine (ceil_any _ (by omega) _).mono ?_; rintro e w' ⟨rfl, rfl⟩))
  refine (UX0.out _).mono ?_
  rintro e w1 ⟨rfl, n2, rfl⟩
  go_wp2_with (first | (go_at_call 93; refine (nudge_down ux 0 (by omega) (by omega) CX _).mono ?_; rintro e w' ⟨rfl, rfl⟩) | fail)
  refine (floor_any _ (by omega) _).mono ?_
  rintro e w' ⟨rfl, rfl⟩
  have hR := HR.out
  by_cases k1 : (um + 0 + 3) / 4 ≤ (ux - 0) / 4 / 10 * 10
  · rw [if_pos k1] at hR
    go_wp2_with fail
    go_ret2
    refine ⟨?_, below_drewN hW0.out _⟩
    rw [hR]; simp
  · rw [if_neg k1] at hR
    by_cases k2 : (um + 0 + 3) / 4 < (ux - 0) / 4
    · rw [if_pos k2] at hR
      go_wp2_with fail
      refine (UU0.out _).mono ?_
      rintro e w1 ⟨rfl, n3, rfl⟩
      go_wp2_with (go_at_call 96; refine (round_any uu (by omega) _).mono ?_; rintro e w' ⟨rfl, rfl⟩)
      go_ret2
      refine ⟨?_, below_drewN hW0.out _⟩
      rw [hR]; simp
    · rw [if_neg k2] at hR
      go_wp2_with fail
      go_ret2
      refine ⟨?_, below_drewN hW0.out _⟩
      rw [hR]; simp
theorem i64_and1 (x : Nat) (hx : x < 9223372036854775808) : bits .and .i64 (x : Int) 1 = ((x % 2 : Nat) : Int) := by
  have h1 : (BitVec.ofInt 64 (x : Int)).toNat = x := ofInt_u64 x (by omega)
  have h2 : (BitVec.ofInt 64 (1 : Int)).toNat = 1 := by decide
  have h3 : bits .and .i64 (x : Int) 1 = IntKind.i64.wrap ((BitVec.ofInt 64 (x : Int) &&& BitVec.ofInt 64 (1 : Int)).toNat : Int) := rfl
  rw [h3, BitVec.toNat_and, h1, h2, Nat.and_one_is_mod, IntKind.wrap_i64]
  omega
theorem usc_pos {x hi lo s : Nat} (hx : 9223372036854775808 ≤ x) (hh : 9223372036854775808 ≤ hi) (hs : s ≤ 60) : 1 ≤ usc x hi lo s := by
  have h1 : 9223372036854775808 * 9223372036854775808 ≤ x * hi := Nat.mul_le_mul hx hh
  have h2 : 2 ^ s ≤ 2 ^ 60 := Nat.pow_le_pow_right (by omega) hs
  have h3 : 1 ≤ x * hi / 18446744073709551616 / 2 ^ s := by
    rw [Nat.le_div_iff_mul_le (Nat.pos_of_ne_zero (by simp))]
    generalize 2 ^ s = k at *
    generalize x * hi = y at *
    omega
  unfold usc od
  split
  · omega
  · split
    · omega
    · split <;> omega
set_option maxRecDepth 100000 in
set_option maxHeartbeats 1600000 in
theorem shortFloat_B (w : World) (h : PowTab w) (m : Nat) (hm1 : topM < m) (hm2 : m < 18446744073709551616) (hd : m % 2048 = 0) (e : Int) (he1 : -1085 ≤ e) (he2 : e ≤ 960) :
    Calls Tryz.prog 70 #[.int .u64 m, .int .i64 e] w fun x w' => x = .returned (.tuple #[.int .u64 (shortN m e).1, .int .i64 (shortN m e).2]) ∧ Below w.heap.size w w' := by
  have htop : topM = 9223372036854775808 := rfl
  have tm : ((m : Int) == 9223372036854775808) = false := by rw [beq_eq_false_iff_ne]; omega
  have c0 := allFrom_at chkB_all (e := e) (by omega) (by omega)
  unfold chkB at c0
  simp only [Bool.and_eq_true, decide_eq_true_eq] at c0
  obtain ⟨⟨⟨⟨⟨c1, c2⟩, c3⟩, -⟩, -⟩, -⟩ := c0
  have hA : ¬(m = topM ∧ -1085 < e) := by omega
  obtain ⟨mn, hmn⟩ : ∃ mn : Nat, (m : Int) - 1024 = mn := ⟨m - 1024, by omega⟩
  obtain ⟨mx, hmx⟩ : ∃ mx : Nat, (m : Int) + 1024 = mx := ⟨m + 1024, by omega⟩
  have hmx2 : mx < 18446744073709551616 := by omega
  obtain ⟨c, hc0⟩ : ∃ c : Nat, m / 2048 % 2 = c := ⟨_, rfl⟩
  have hcl : c ≤ 1 := by omega
  have hcb : bits .and .i64 ((m : Int) / 2048) 1 = (c : Int) := by
    rw [← hc0]; exact i64_and1 (m / 2048) (by omega)
  have eP : shP m e = -lgTen (e + 11) := by unfold shP; rw [if_neg hA, if_pos he1]
  have eMin : shMin m e = mn := by unfold shMin; rw [if_neg hA, if_pos he1]; omega
  have eMax : shMax m e = mx := by unfold shMax; rw [if_neg hA, if_pos he1]; omega
  have eC : shC m e = c := by unfold shC; rw [if_pos he1]; exact hc0
  have hs0 : -(e + lg (-lgTen (e + 11)) + 3) ≤ 60 := by unfold lg lgTen; omega
  obtain ⟨i, hp⟩ : ∃ i : Nat, -lgTen (e + 11) = (i : Int) - 348 := ⟨(-lgTen (e + 11) + 348).toNat, by omega⟩
  rw [hp] at eP c1 c2 c3 hs0
  have hi : i < 696 := by omega
  have hpw : wrap64 (-lgTen (e + 11)) = (i : Int) - 348 := by rw [hp]; unfold wrap64; omega
  obtain ⟨t, ht⟩ : ∃ t : Nat, -(e + lg ((i : Int) - 348) + 3) = (t : Int) := ⟨(-(e + lg ((i : Int) - 348) + 3)).toNat, by omega⟩
  have eS : shS m e = t := by unfold shS; rw [eP]; omega
  have hrow0 := row_facts c2 c3
  have hR := shortN_is eP eS eMin eMax eC
  generalize shortN m e = r at *
  unfold uscP at hR
  rw [show (tenRow ((i : Int) - 348)) = Pinned.pow10Rows.getD i (0, 0) by unfold tenRow; congr 1; omega] at hR hrow0
  obtain ⟨lp, hlp⟩ : ∃ lp, lg ((i : Int) - 348) = lp := ⟨_, rfl⟩
  obtain ⟨hr1, hr2, hr3, -, -⟩ := hrow0
  rw [hlp] at ht c1 hs0
  have PRE := prescale_any w h i hi e lp (by omega) (by omega)
  rw [ht] at PRE
  generalize (Pinned.pow10Rows.getD i (0, 0)).1 = ph at *
  generalize (Pinned.pow10Rows.getD i (0, 0)).2 = pl at *
  have hc : ∀ (k : Nat) (v : Value), (#[Value.int .u64 ph, .int .u64 pl, .int .i64 t] : Array Value)[k]? = some v → (w.alloc (.cells #[.int .u64 ph, .int .u64 pl, .int .i64 t] 116)).cell? ⟨w.heap.size, k, none⟩ = some v := fun k v hk => by
    rw [← hk]; exact (At.fresh w _ _).cell k
  have US : ∀ (x : Nat), 2 ≤ x → x < 18446744073709551616 → ∀ n, Calls Tryz.prog 92 #[.int .u64 x, .pointer (some ⟨w.heap.size, 0, none⟩)] ((w.alloc (.cells #[.int .u64 ph, .int .u64 pl, .int .i64 t] 116)).drewN n) fun e w' => e = .returned (.int .u64 (usc x ph pl t : Nat)) ∧ ∃ nd, ((w.alloc (.cells #[.int .u64 ph, .int .u64 pl, .int .i64 t] 116)).drewN n).drewN nd = w' := fun x hx2 hx n =>
    uscale_any _ w.heap.size x ph pl t (hc 0 _ rfl) (hc 1 _ rfl) (hc 2 _ rfl) hx hr1 hr3 (by omega) (h_pos hx2 hr2)
  have UL : ∀ (x : Nat), x < 18446744073709551616 → usc x ph pl t < 9223372036854775800 := fun x hx => usc_lt hx hr1 (by omega)
  have hW : Below w.heap.size w (w.alloc (.cells #[.int .u64 ph, .int .u64 pl, .int .i64 t] 116)) := (Below.refl _ _).alloc (Nat.le_refl _) _
  have UM := US mn (by omega) (by omega)
  have UX := US mx (by omega) (by omega)
  have UU := US m (by omega) hm2
  have LM := UL mn (by omega)
  have LX := UL mx (by omega)
  have LU := UL m hm2
  have CX : c ≤ usc mx ph pl t := Nat.le_trans hcl (usc_pos (by omega) hr2 (by omega))
  generalize usc mn ph pl t = um at *
  generalize usc mx ph pl t = ux at *
  generalize usc m ph pl t = uu at *
  have UM0 := Lib.hid UM
  have UX0 := Lib.hid UX
  have UU0 := Lib.hid UU
  have PRE0 := Lib.hid PRE
  have hW0 := Lib.hid hW
  have HR := Lib.hid hR
  clear UM UX UU PRE hW US UL hR hc hr1 hr2 hr3 eP eS eMin eMax eC h
  generalize hWW : w.alloc (.cells #[.int .u64 ph, .int .u64 pl, .int .i64 t] 116) = W at *
  clear hWW
  go_enter Tryz.func70, Tryz.ntmps70
  go_wp2_with (first | (go_at_call 89; refine (skewed_any _ (by omega) (by omega) _).mono ?_; rintro e w' ⟨rfl, rfl⟩) | (go_at_call 65; refine (log10_any _ (by omega) (by omega) _).mono ?_; rintro e w' ⟨rfl, rfl⟩) | (go_at_call 91; refine (log2_any _ (by omega) (by omega) _).mono ?_; rintro e w' ⟨rfl, rfl⟩))
  refine PRE0.out.mono ?_
  rintro e w1 ⟨rfl, rfl⟩
  go_wp2_with fail
  refine (UM0.out 0).mono ?_
  rintro e w1 ⟨rfl, n1, rfl⟩
  go_wp2_with (first | (go_at_call 93; refine (nudge_up um c (by omega) (by omega) _).mono ?_; rintro e w' ⟨rfl, rfl⟩) | (go_at_call 94; refine (ceil_any _ (by omega) _).mono ?_; rintro e w' ⟨rfl, rfl⟩))
  refine (UX0.out _).mono ?_
  rintro e w1 ⟨rfl, n2, rfl⟩
  go_wp2_with (first | (go_at_call 93; refine (nudge_down ux c (by omega) (by omega) CX _).mono ?_; rintro e w' ⟨rfl, rfl⟩) | fail)
  refine (floor_any _ (by omega) _).mono ?_
  rintro e w' ⟨rfl, rfl⟩
  have hR := HR.out
  by_cases k1 : (um + c + 3) / 4 ≤ (ux - c) / 4 / 10 * 10
  · rw [if_pos k1] at hR
    go_wp2_with fail
    go_ret2
    refine ⟨?_, below_drewN hW0.out _⟩
    rw [hR]; simp
  · rw [if_neg k1] at hR
    by_cases k2 : (um + c + 3) / 4 < (ux - c) / 4
    · rw [if_pos k2] at hR
      go_wp2_with fail
      refine (UU0.out _).mono ?_
      rintro e w1 ⟨rfl, n3, rfl⟩
      go_wp2_with (go_at_call 96; refine (round_any uu (by omega) _).mono ?_; rintro e w' ⟨rfl, rfl⟩)
      go_ret2
      refine ⟨?_, below_drewN hW0.out _⟩
      rw [hR]; simp
    · rw [if_neg k2] at hR
      go_wp2_with fail
      go_ret2
      refine ⟨?_, below_drewN hW0.out _⟩
      rw [hR]; simp
set_option maxRecDepth 100000 in
set_option maxHeartbeats 1600000 in
theorem shortFloat_B2 (w : World) (h : PowTab w) (m : Nat) (hm1 : topM ≤ m) (hm3 : m ≤ topM) (hm2 : m < 18446744073709551616) (hd : m % 2048 = 0) (e : Int) (he1 : -1085 ≤ e) (he2 : e ≤ -1085) :
    Calls Tryz.prog 70 #[.int .u64 m, .int .i64 e] w fun x w' => x = .returned (.tuple #[.int .u64 (shortN m e).1, .int .i64 (shortN m e).2]) ∧ Below w.heap.size w w' := by
  have htop : topM = 9223372036854775808 := rfl
  have tm : ((m : Int) == 9223372036854775808) = true := by rw [beq_iff_eq]; omega
  have c0 := allFrom_at chkB_all (e := e) (by omega) (by omega)
  unfold chkB at c0
  simp only [Bool.and_eq_true, decide_eq_true_eq] at c0
  obtain ⟨⟨⟨⟨⟨c1, c2⟩, c3⟩, -⟩, -⟩, -⟩ := c0
  have hA : ¬(m = topM ∧ -1085 < e) := by omega
  obtain ⟨mn, hmn⟩ : ∃ mn : Nat, (m : Int) - 1024 = mn := ⟨m - 1024, by omega⟩
  obtain ⟨mx, hmx⟩ : ∃ mx : Nat, (m : Int) + 1024 = mx := ⟨m + 1024, by omega⟩
  have hmx2 : mx < 18446744073709551616 := by omega
  obtain ⟨c, hc0⟩ : ∃ c : Nat, m / 2048 % 2 = c := ⟨_, rfl⟩
  have hcl : c ≤ 1 := by omega
  have hcb : bits .and .i64 ((m : Int) / 2048) 1 = (c : Int) := by
    rw [← hc0]; exact i64_and1 (m / 2048) (by omega)
  have eP : shP m e = -lgTen (e + 11) := by unfold shP; rw [if_neg hA, if_pos he1]
  have eMin : shMin m e = mn := by unfold shMin; rw [if_neg hA, if_pos he1]; omega
  have eMax : shMax m e = mx := by unfold shMax; rw [if_neg hA, if_pos he1]; omega
  have eC : shC m e = c := by unfold shC; rw [if_pos he1]; exact hc0
  have hs0 : -(e + lg (-lgTen (e + 11)) + 3) ≤ 60 := by unfold lg lgTen; omega
  obtain ⟨i, hp⟩ : ∃ i : Nat, -lgTen (e + 11) = (i : Int) - 348 := ⟨(-lgTen (e + 11) + 348).toNat, by omega⟩
  rw [hp] at eP c1 c2 c3 hs0
  have hi : i < 696 := by omega
  have hpw : wrap64 (-lgTen (e + 11)) = (i : Int) - 348 := by rw [hp]; unfold wrap64; omega
  obtain ⟨t, ht⟩ : ∃ t : Nat, -(e + lg ((i : Int) - 348) + 3) = (t : Int) := ⟨(-(e + lg ((i : Int) - 348) + 3)).toNat, by omega⟩
  have eS : shS m e = t := by unfold shS; rw [eP]; omega
  have hrow0 := row_facts c2 c3
  have hR := shortN_is eP eS eMin eMax eC
  generalize shortN m e = r at *
  unfold uscP at hR
  rw [show (tenRow ((i : Int) - 348)) = Pinned.pow10Rows.getD i (0, 0) by unfold tenRow; congr 1; omega] at hR hrow0
  obtain ⟨lp, hlp⟩ : ∃ lp, lg ((i : Int) - 348) = lp := ⟨_, rfl⟩
  obtain ⟨hr1, hr2, hr3, -, -⟩ := hrow0
  rw [hlp] at ht c1 hs0
  have PRE := prescale_any w h i hi e lp (by omega) (by omega)
  rw [ht] at PRE
  generalize (Pinned.pow10Rows.getD i (0, 0)).1 = ph at *
  generalize (Pinned.pow10Rows.getD i (0, 0)).2 = pl at *
  have hc : ∀ (k : Nat) (v : Value), (#[Value.int .u64 ph, .int .u64 pl, .int .i64 t] : Array Value)[k]? = some v → (w.alloc (.cells #[.int .u64 ph, .int .u64 pl, .int .i64 t] 116)).cell? ⟨w.heap.size, k, none⟩ = some v := fun k v hk => by
    rw [← hk]; exact (At.fresh w _ _).cell k
  have US : ∀ (x : Nat), 2 ≤ x → x < 18446744073709551616 → ∀ n, Calls Tryz.prog 92 #[.int .u64 x, .pointer (some ⟨w.heap.size, 0, none⟩)] ((w.alloc (.cells #[.int .u64 ph, .int .u64 pl, .int .i64 t] 116)).drewN n) fun e w' => e = .returned (.int .u64 (usc x ph pl t : Nat)) ∧ ∃ nd, ((w.alloc (.cells #[.int .u64 ph, .int .u64 pl, .int .i64 t] 116)).drewN n).drewN nd = w' := fun x hx2 hx n =>
    uscale_any _ w.heap.size x ph pl t (hc 0 _ rfl) (hc 1 _ rfl) (hc 2 _ rfl) hx hr1 hr3 (by omega) (h_pos hx2 hr2)
  have UL : ∀ (x : Nat), x < 18446744073709551616 → usc x ph pl t < 9223372036854775800 := fun x hx => usc_lt hx hr1 (by omega)
  have hW : Below w.heap.size w (w.alloc (.cells #[.int .u64 ph, .int .u64 pl, .int .i64 t] 116)) := (Below.refl _ _).alloc (Nat.le_refl _) _
  have UM := US mn (by omega) (by omega)
  have UX := US mx (by omega) (by omega)
  have UU := US m (by omega) hm2
  have LM := UL mn (by omega)
  have LX := UL mx (by omega)
  have LU := UL m hm2
  have CX : c ≤ usc mx ph pl t := Nat.le_trans hcl (usc_pos (by omega) hr2 (by omega))
  generalize usc mn ph pl t = um at *
  generalize usc mx ph pl t = ux at *
  generalize usc m ph pl t = uu at *
  have UM0 := Lib.hid UM
  have UX0 := Lib.hid UX
  have UU0 := Lib.hid UU
  have PRE0 := Lib.hid PRE
  have hW0 := Lib.hid hW
  have HR := Lib.hid hR
  clear UM UX UU PRE hW US UL hR hc hr1 hr2 hr3 eP eS eMin eMax eC h
  generalize hWW : w.alloc (.cells #[.int .u64 ph, .int .u64 pl, .int .i64 t] 116) = W at *
  clear hWW
  go_enter Tryz.func70, Tryz.ntmps70
  go_wp2_with (first | (go_at_call 89; refine (skewed_any _ (by omega) (by omega) _).mono ?_; rintro e w' ⟨rfl, rfl⟩) | (go_at_call 65; refine (log10_any _ (by omega) (by omega) _).mono ?_; rintro e w' ⟨rfl, rfl⟩) | (go_at_call 91; refine (log2_any _ (by omega) (by omega) _).mono ?_; rintro e w' ⟨rfl, rfl⟩))
  refine PRE0.out.mono ?_
  rintro e w1 ⟨rfl, rfl⟩
  go_wp2_with fail
  refine (UM0.out 0).mono ?_
  rintro e w1 ⟨rfl, n1, rfl⟩
  go_wp2_with (first | (go_at_call 93; refine (nudge_up um c (by omega) (by omega) _).mono ?_; rintro e w' ⟨rfl, rfl⟩) | (go_at_call 94; refine (ceil_any _ (by omega) _).mono ?_; rintro e w' ⟨rfl, rfl⟩))
  refine (UX0.out _).mono ?_
  rintro e w1 ⟨rfl, n2, rfl⟩
  go_wp2_with (first | (go_at_call 93; refine (nudge_down ux c (by omega) (by omega) CX _).mono ?_; rintro e w' ⟨rfl, rfl⟩) | fail)
  refine (floor_any _ (by omega) _).mono ?_
  rintro e w' ⟨rfl, rfl⟩
  have hR := HR.out
  by_cases k1 : (um + c + 3) / 4 ≤ (ux - c) / 4 / 10 * 10
  · rw [if_pos k1] at hR
    go_wp2_with fail
    go_ret2
    refine ⟨?_, below_drewN hW0.out _⟩
    rw [hR]; simp
  · rw [if_neg k1] at hR
    by_cases k2 : (um + c + 3) / 4 < (ux - c) / 4
    · rw [if_pos k2] at hR
      go_wp2_with fail
      refine (UU0.out _).mono ?_
      rintro e w1 ⟨rfl, n3, rfl⟩
      go_wp2_with (go_at_call 96; refine (round_any uu (by omega) _).mono ?_; rintro e w' ⟨rfl, rfl⟩)
      go_ret2
      refine ⟨?_, below_drewN hW0.out _⟩
      rw [hR]; simp
    · rw [if_neg k2] at hR
      go_wp2_with fail
      go_ret2
      refine ⟨?_, below_drewN hW0.out _⟩
      rw [hR]; simp
theorem room_above {m k : Nat} (hk : k ≤ 63) (hm : m < 18446744073709551616) (hd : m % 2 ^ k = 0) : m + 2 ^ k ≤ 18446744073709551616 := by
  have h1 : (18446744073709551616 : Nat) = 2 ^ k * 2 ^ (64 - k) := by rw [← Nat.pow_add, show k + (64 - k) = 64 by omega]
  have h2 := Nat.div_add_mod m (2 ^ k)
  rw [hd, Nat.add_zero] at h2
  rw [h1] at hm ⊢
  rw [← h2] at hm ⊢
  have h3 := Nat.lt_of_mul_lt_mul_left hm
  rw [← Nat.mul_succ]
  exact Nat.mul_le_mul_left _ h3
set_option maxRecDepth 100000 in
set_option maxHeartbeats 1600000 in
theorem shortFloat_C (w : World) (h : PowTab w) (m : Nat) (hm0 : topM < m) (hm2 : m < 18446744073709551616) (e : Int) (he1 : -1137 ≤ e) (he2 : e < -1085) (hd : m % 2 ^ (-1074 - e).toNat = 0) :
    Calls Tryz.prog 70 #[.int .u64 m, .int .i64 e] w fun x w' => x = .returned (.tuple #[.int .u64 (shortN m e).1, .int .i64 (shortN m e).2]) ∧ Below w.heap.size w w' := by
  have htop : topM = 9223372036854775808 := rfl
  have tm : ((m : Int) == 9223372036854775808) = false := by rw [beq_eq_false_iff_ne]; omega
  have c0 := allFrom_at chkC_all (e := e) (by omega) (by omega)
  unfold chkC at c0
  simp only [Bool.and_eq_true, decide_eq_true_eq] at c0
  obtain ⟨⟨c1, -⟩, -⟩ := c0
  have hA : ¬(m = topM ∧ -1085 < e) := by omega
  have hB : ¬(-1085 ≤ e) := by omega
  obtain ⟨k, hk⟩ : ∃ k : Nat, 11 + (-1085 - e) = (k : Int) := ⟨(11 + (-1085 - e)).toNat, by omega⟩
  have hk1 : 12 ≤ k := by omega
  have hk2 : k ≤ 63 := by omega
  have hke : e + (k : Int) = -1074 := by omega
  have hkN : (-1074 - e).toNat = k := by omega
  have hkM : (-1075 - e).toNat = k - 1 := by omega
  rw [hkN] at hd
  obtain ⟨q, hq⟩ : ∃ q : Nat, 2 ^ (k - 1) = q := ⟨_, rfl⟩
  have hqI : (2 : Int) ^ (k - 1) = (q : Int) := by rw [← hq]; simp
  have hq1 : q ≤ 2 ^ 62 := by rw [← hq]; exact Nat.pow_le_pow_right (by omega) (by omega)
  have hq2 : 2 ^ k = 2 * q := by rw [← hq, ← Nat.pow_succ']; congr 1; omega
  obtain ⟨mn, hmn⟩ : ∃ mn : Nat, (m : Int) - q = mn := ⟨m - q, by omega⟩
  obtain ⟨mx, hmx⟩ : ∃ mx : Nat, (m : Int) + q = mx := ⟨m + q, by omega⟩
  have hq0 : 0 < q := by rw [← hq]; exact Nat.pos_of_ne_zero (by simp)
  have hmx2 : mx < 18446744073709551616 := by
    have := room_above hk2 hm2 hd
    omega
  have eMin : shMin m e = mn := by unfold shMin; rw [if_neg hA, if_neg hB, hkM, hq]; omega
  have eMax : shMax m e = mx := by unfold shMax; rw [if_neg hA, if_neg hB, hkM, hq]; omega
  have eP : shP m e = ((672 : Nat) : Int) - 348 := by unfold shP; rw [if_neg hA, if_neg hB, lgTen_low]; rfl
  obtain ⟨c, hc0⟩ : ∃ c : Nat, m / 2 ^ k % 2 = c := ⟨_, rfl⟩
  have hcl : c ≤ 1 := by omega
  have hcb : bits .and .i64 ((m : Int) / 2 ^ k) 1 = (c : Int) := by
    have h5 : 2 ^ 12 ≤ 2 ^ k := Nat.pow_le_pow_right (by omega) hk1
    have h6 : m / 2 ^ k ≤ m / 2 ^ 12 := Nat.div_le_div_left h5 (by decide)
    have h7 : m / 2 ^ 12 < 9223372036854775808 := by omega
    have h8 := i64_and1 (m / 2 ^ k) (Nat.lt_of_le_of_lt h6 h7)
    rw [hc0] at h8
    rw [← h8]; simp
  have hwr : wrap64 ((m : Int) / 2 ^ k) = (m : Int) / 2 ^ k := by
    have h5 : 2 ^ 12 ≤ 2 ^ k := Nat.pow_le_pow_right (by omega) hk1
    have h6 : m / 2 ^ k ≤ m / 2 ^ 12 := Nat.div_le_div_left h5 (by decide)
    have h7 : m / 2 ^ 12 < 9223372036854775808 := by omega
    have h8 : ((m : Int) / 2 ^ k) = (m / 2 ^ k : Nat) := by simp
    rw [h8]
    generalize m / 2 ^ k = y at *
    unfold wrap64
    omega
  have eC : shC m e = c := by unfold shC; rw [if_neg hB, hkN]; exact hc0
  have hl324 : lg (((672 : Nat) : Int) - 348) = 1076 := by decide
  have hs0 : -(e + lg (((672 : Nat) : Int) - 348) + 3) ≤ 60 := by rw [hl324]; omega
  have c1 : 5 ≤ -(e + lg (((672 : Nat) : Int) - 348) + 3) := c1
  have c2 : -348 ≤ ((672 : Nat) : Int) - 348 := by decide
  have c3 : ((672 : Nat) : Int) - 348 ≤ 347 := by decide
  obtain ⟨i, hi0⟩ : ∃ i : Nat, i = 672 := ⟨_, rfl⟩
  have hi : i < 696 := by omega
  rw [← hi0] at eP hs0 c1 c2 c3
  have hpw : wrap64 (-lgTen (-1074)) = (i : Int) - 348 := by rw [lgTen_low, hi0]; unfold wrap64; omega
  clear hA hB hi0 hl324 hq2 hd hq hkN hkM hc0
  obtain ⟨t, ht⟩ : ∃ t : Nat, -(e + lg ((i : Int) - 348) + 3) = (t : Int) := ⟨(-(e + lg ((i : Int) - 348) + 3)).toNat, by omega⟩
  have eS : shS m e = t := by unfold shS; rw [eP]; omega
  have hrow0 := row_facts c2 c3
  have hR := shortN_is eP eS eMin eMax eC
  generalize shortN m e = r at *
  unfold uscP at hR
  rw [show (tenRow ((i : Int) - 348)) = Pinned.pow10Rows.getD i (0, 0) by unfold tenRow; congr 1; omega] at hR hrow0
  obtain ⟨lp, hlp⟩ : ∃ lp, lg ((i : Int) - 348) = lp := ⟨_, rfl⟩
  obtain ⟨hr1, hr2, hr3, -, -⟩ := hrow0
  rw [hlp] at ht c1 hs0
  have PRE := prescale_any w h i hi e lp (by omega) (by omega)
  rw [ht] at PRE
  generalize (Pinned.pow10Rows.getD i (0, 0)).1 = ph at *
  generalize (Pinned.pow10Rows.getD i (0, 0)).2 = pl at *
  have hc : ∀ (k : Nat) (v : Value), (#[Value.int .u64 ph, .int .u64 pl, .int .i64 t] : Array Value)[k]? = some v → (w.alloc (.cells #[.int .u64 ph, .int .u64 pl, .int .i64 t] 116)).cell? ⟨w.heap.size, k, none⟩ = some v := fun k v hk => by
    rw [← hk]; exact (At.fresh w _ _).cell k
  have US : ∀ (x : Nat), 2 ≤ x → x < 18446744073709551616 → ∀ n, Calls Tryz.prog 92 #[.int .u64 x, .pointer (some ⟨w.heap.size, 0, none⟩)] ((w.alloc (.cells #[.int .u64 ph, .int .u64 pl, .int .i64 t] 116)).drewN n) fun e w' => e = .returned (.int .u64 (usc x ph pl t : Nat)) ∧ ∃ nd, ((w.alloc (.cells #[.int .u64 ph, .int .u64 pl, .int .i64 t] 116)).drewN n).drewN nd = w' := fun x hx2 hx n =>
    uscale_any _ w.heap.size x ph pl t (hc 0 _ rfl) (hc 1 _ rfl) (hc 2 _ rfl) hx hr1 hr3 (by omega) (h_pos hx2 hr2)
  have UL : ∀ (x : Nat), x < 18446744073709551616 → usc x ph pl t < 9223372036854775800 := fun x hx => usc_lt hx hr1 (by omega)
  have hW : Below w.heap.size w (w.alloc (.cells #[.int .u64 ph, .int .u64 pl, .int .i64 t] 116)) := (Below.refl _ _).alloc (Nat.le_refl _) _
  have UM := US mn (by omega) (by omega)
  have UX := US mx (by omega) (by omega)
  have UU := US m (by omega) hm2
  have LM := UL mn (by omega)
  have LX := UL mx (by omega)
  have LU := UL m hm2
  have CX : c ≤ usc mx ph pl t := Nat.le_trans hcl (usc_pos (by omega) hr2 (by omega))
  generalize usc mn ph pl t = um at *
  generalize usc mx ph pl t = ux at *
  generalize usc m ph pl t = uu at *
  have UM0 := Lib.hid UM
  have UX0 := Lib.hid UX
  have UU0 := Lib.hid UU
  have PRE0 := Lib.hid PRE
  have hW0 := Lib.hid hW
  have HR := Lib.hid hR
  clear UM UX UU PRE hW US UL hR hc hr1 hr2 hr3 eP eS eMin eMax eC h
  generalize hWW : w.alloc (.cells #[.int .u64 ph, .int .u64 pl, .int .i64 t] 116) = W at *
  clear hWW
  go_enter Tryz.func70, Tryz.ntmps70
  go_wp2_with (first | (go_at_call 89; refine (skewed_any _ (by omega) (by omega) _).mono ?_; rintro e w' ⟨rfl, rfl⟩) | (go_at_call 65; refine (log10_any _ (by omega) (by omega) _).mono ?_; rintro e w' ⟨rfl, rfl⟩) | (go_at_call 91; refine (log2_any _ (by omega) (by omega) _).mono ?_; rintro e w' ⟨rfl, rfl⟩))
  refine PRE0.out.mono ?_
  rintro e w1 ⟨rfl, rfl⟩
  go_wp2_with fail
  refine (UM0.out 0).mono ?_
  rintro e w1 ⟨rfl, n1, rfl⟩
  go_wp2_with (first | (go_at_call 93; refine (nudge_up um c (by omega) (by omega) _).mono ?_; rintro e w' ⟨rfl, rfl⟩) | (go_at_call 94; refine (ceil_any _ (by omega) _).mono ?_; rintro e w' ⟨rfl, rfl⟩))
  refine (UX0.out _).mono ?_
  rintro e w1 ⟨rfl, n2, rfl⟩
  go_wp2_with (first | (go_at_call 93; refine (nudge_down ux c (by omega) (by omega) CX _).mono ?_; rintro e w' ⟨rfl, rfl⟩) | fail)
  refine (floor_any _ (by omega) _).mono ?_
  rintro e w' ⟨rfl, rfl⟩
  have hR := HR.out
  by_cases k1 : (um + c + 3) / 4 ≤ (ux - c) / 4 / 10 * 10
  · rw [if_pos k1] at hR
    go_wp2_with fail
    go_ret2
    refine ⟨?_, below_drewN hW0.out _⟩
    rw [hR]; simp
  · rw [if_neg k1] at hR
    by_cases k2 : (um + c + 3) / 4 < (ux - c) / 4
    · rw [if_pos k2] at hR
      go_wp2_with fail
      refine (UU0.out _).mono ?_
      rintro e w1 ⟨rfl, n3, rfl⟩
      go_wp2_with (go_at_call 96; refine (round_any uu (by omega) _).mono ?_; rintro e w' ⟨rfl, rfl⟩)
      go_ret2
      refine ⟨?_, below_drewN hW0.out _⟩
      rw [hR]; simp
    · rw [if_neg k2] at hR
      go_wp2_with fail
      go_ret2
      refine ⟨?_, below_drewN hW0.out _⟩
      rw [hR]; simp
set_option maxRecDepth 100000 in
set_option maxHeartbeats 1600000 in
theorem shortFloat_C2 (w : World) (h : PowTab w) (m : Nat) (hm1 : topM ≤ m) (hm0 : m ≤ topM) (hm2 : m < 18446744073709551616) (e : Int) (he1 : -1137 ≤ e) (he2 : e < -1085) (hd : m % 2 ^ (-1074 - e).toNat = 0) :
    Calls Tryz.prog 70 #[.int .u64 m, .int .i64 e] w fun x w' => x = .returned (.tuple #[.int .u64 (shortN m e).1, .int .i64 (shortN m e).2]) ∧ Below w.heap.size w w' := by
  have htop : topM = 9223372036854775808 := rfl
  have tm : ((m : Int) == 9223372036854775808) = true := by rw [beq_iff_eq]; omega
  have c0 := allFrom_at chkC_all (e := e) (by omega) (by omega)
  unfold chkC at c0
  simp only [Bool.and_eq_true, decide_eq_true_eq] at c0
  obtain ⟨⟨c1, -⟩, -⟩ := c0
  have hA : ¬(m = topM ∧ -1085 < e) := by omega
  have hB : ¬(-1085 ≤ e) := by omega
  obtain ⟨k, hk⟩ : ∃ k : Nat, 11 + (-1085 - e) = (k : Int) := ⟨(11 + (-1085 - e)).toNat, by omega⟩
  have hk1 : 12 ≤ k := by omega
  have hk2 : k ≤ 63 := by omega
  have hke : e + (k : Int) = -1074 := by omega
  have hkN : (-1074 - e).toNat = k := by omega
  have hkM : (-1075 - e).toNat = k - 1 := by omega
  rw [hkN] at hd
  obtain ⟨q, hq⟩ : ∃ q : Nat, 2 ^ (k - 1) = q := ⟨_, rfl⟩
  have hqI : (2 : Int) ^ (k - 1) = (q : Int) := by rw [← hq]; simp
  have hq1 : q ≤ 2 ^ 62 := by rw [← hq]; exact Nat.pow_le_pow_right (by omega) (by omega)
  have hq2 : 2 ^ k = 2 * q := by rw [← hq, ← Nat.pow_succ']; congr 1; omega
  obtain ⟨mn, hmn⟩ : ∃ mn : Nat, (m : Int) - q = mn := ⟨m - q, by omega⟩
  obtain ⟨mx, hmx⟩ : ∃ mx : Nat, (m : Int) + q = mx := ⟨m + q, by omega⟩
  have hq0 : 0 < q := by rw [← hq]; exact Nat.pos_of_ne_zero (by simp)
  have hmx2 : mx < 18446744073709551616 := by
    have := room_above hk2 hm2 hd
    omega
  have eMin : shMin m e = mn := by unfold shMin; rw [if_neg hA, if_neg hB, hkM, hq]; omega
  have eMax : shMax m e = mx := by unfold shMax; rw [if_neg hA, if_neg hB, hkM, hq]; omega
  have eP : shP m e = ((672 : Nat) : Int) - 348 := by unfold shP; rw [if_neg hA, if_neg hB, lgTen_low]; rfl
  obtain ⟨c, hc0⟩ : ∃ c : Nat, m / 2 ^ k % 2 = c := ⟨_, rfl⟩
  have hcl : c ≤ 1 := by omega
  have hcb : bits .and .i64 ((m : Int) / 2 ^ k) 1 = (c : Int) := by
    have h5 : 2 ^ 12 ≤ 2 ^ k := Nat.pow_le_pow_right (by omega) hk1
    have h6 : m / 2 ^ k ≤ m / 2 ^ 12 := Nat.div_le_div_left h5 (by decide)
    have h7 : m / 2 ^ 12 < 9223372036854775808 := by omega
    have h8 := i64_and1 (m / 2 ^ k) (Nat.lt_of_le_of_lt h6 h7)
    rw [hc0] at h8
    rw [← h8]; simp
  have hwr : wrap64 ((m : Int) / 2 ^ k) = (m : Int) / 2 ^ k := by
    have h5 : 2 ^ 12 ≤ 2 ^ k := Nat.pow_le_pow_right (by omega) hk1
    have h6 : m / 2 ^ k ≤ m / 2 ^ 12 := Nat.div_le_div_left h5 (by decide)
    have h7 : m / 2 ^ 12 < 9223372036854775808 := by omega
    have h8 : ((m : Int) / 2 ^ k) = (m / 2 ^ k : Nat) := by simp
    rw [h8]
    generalize m / 2 ^ k = y at *
    unfold wrap64
    omega
  have eC : shC m e = c := by unfold shC; rw [if_neg hB, hkN]; exact hc0
  have hl324 : lg (((672 : Nat) : Int) - 348) = 1076 := by decide
  have hs0 : -(e + lg (((672 : Nat) : Int) - 348) + 3) ≤ 60 := by rw [hl324]; omega
  have c1 : 5 ≤ -(e + lg (((672 : Nat) : Int) - 348) + 3) := c1
  have c2 : -348 ≤ ((672 : Nat) : Int) - 348 := by decide
  have c3 : ((672 : Nat) : Int) - 348 ≤ 347 := by decide
  obtain ⟨i, hi0⟩ : ∃ i : Nat, i = 672 := ⟨_, rfl⟩
  have hi : i < 696 := by omega
  rw [← hi0] at eP hs0 c1 c2 c3
  have hpw : wrap64 (-lgTen (-1074)) = (i : Int) - 348 := by rw [lgTen_low, hi0]; unfold wrap64; omega
  clear hA hB hi0 hl324 hq2 hd hq hkN hkM hc0
  obtain ⟨t, ht⟩ : ∃ t : Nat, -(e + lg ((i : Int) - 348) + 3) = (t : Int) := ⟨(-(e + lg ((i : Int) - 348) + 3)).toNat, by omega⟩
  have eS : shS m e = t := by unfold shS; rw [eP]; omega
  have hrow0 := row_facts c2 c3
  have hR := shortN_is eP eS eMin eMax eC
  generalize shortN m e = r at *
  unfold uscP at hR
  rw [show (tenRow ((i : Int) - 348)) = Pinned.pow10Rows.getD i (0, 0) by unfold tenRow; congr 1; omega] at hR hrow0
  obtain ⟨lp, hlp⟩ : ∃ lp, lg ((i : Int) - 348) = lp := ⟨_, rfl⟩
  obtain ⟨hr1, hr2, hr3, -, -⟩ := hrow0
  rw [hlp] at ht c1 hs0
  have PRE := prescale_any w h i hi e lp (by omega) (by omega)
  rw [ht] at PRE
  generalize (Pinned.pow10Rows.getD i (0, 0)).1 = ph at *
  generalize (Pinned.pow10Rows.getD i (0, 0)).2 = pl at *
  have hc : ∀ (k : Nat) (v : Value), (#[Value.int .u64 ph, .int .u64 pl, .int .i64 t] : Array Value)[k]? = some v → (w.alloc (.cells #[.int .u64 ph, .int .u64 pl, .int .i64 t] 116)).cell? ⟨w.heap.size, k, none⟩ = some v := fun k v hk => by
    rw [← hk]; exact (At.fresh w _ _).cell k
  have US : ∀ (x : Nat), 2 ≤ x → x < 18446744073709551616 → ∀ n, Calls Tryz.prog 92 #[.int .u64 x, .pointer (some ⟨w.heap.size, 0, none⟩)] ((w.alloc (.cells #[.int .u64 ph, .int .u64 pl, .int .i64 t] 116)).drewN n) fun e w' => e = .returned (.int .u64 (usc x ph pl t : Nat)) ∧ ∃ nd, ((w.alloc (.cells #[.int .u64 ph, .int .u64 pl, .int .i64 t] 116)).drewN n).drewN nd = w' := fun x hx2 hx n =>
    uscale_any _ w.heap.size x ph pl t (hc 0 _ rfl) (hc 1 _ rfl) (hc 2 _ rfl) hx hr1 hr3 (by omega) (h_pos hx2 hr2)
  have UL : ∀ (x : Nat), x < 18446744073709551616 → usc x ph pl t < 9223372036854775800 := fun x hx => usc_lt hx hr1 (by omega)
  have hW : Below w.heap.size w (w.alloc (.cells #[.int .u64 ph, .int .u64 pl, .int .i64 t] 116)) := (Below.refl _ _).alloc (Nat.le_refl _) _
  have UM := US mn (by omega) (by omega)
  have UX := US mx (by omega) (by omega)
  have UU := US m (by omega) hm2
  have LM := UL mn (by omega)
  have LX := UL mx (by omega)
  have LU := UL m hm2
  have CX : c ≤ usc mx ph pl t := Nat.le_trans hcl (usc_pos (by omega) hr2 (by omega))
  generalize usc mn ph pl t = um at *
  generalize usc mx ph pl t = ux at *
  generalize usc m ph pl t = uu at *
  have UM0 := Lib.hid UM
  have UX0 := Lib.hid UX
  have UU0 := Lib.hid UU
  have PRE0 := Lib.hid PRE
  have hW0 := Lib.hid hW
  have HR := Lib.hid hR
  clear UM UX UU PRE hW US UL hR hc hr1 hr2 hr3 eP eS eMin eMax eC h
  generalize hWW : w.alloc (.cells #[.int .u64 ph, .int .u64 pl, .int .i64 t] 116) = W at *
  clear hWW
  go_enter Tryz.func70, Tryz.ntmps70
  go_wp2_with (first | (go_at_call 89; refine (skewed_any _ (by omega) (by omega) _).mono ?_; rintro e w' ⟨rfl, rfl⟩) | (go_at_call 65; refine (log10_any _ (by omega) (by omega) _).mono ?_; rintro e w' ⟨rfl, rfl⟩) | (go_at_call 91; refine (log2_any _ (by omega) (by omega) _).mono ?_; rintro e w' ⟨rfl, rfl⟩))
  refine PRE0.out.mono ?_
  rintro e w1 ⟨rfl, rfl⟩
  go_wp2_with fail
  refine (UM0.out 0).mono ?_
  rintro e w1 ⟨rfl, n1, rfl⟩
  go_wp2_with (first | (go_at_call 93; refine (nudge_up um c (by omega) (by omega) _).mono ?_; rintro e w' ⟨rfl, rfl⟩) | (go_at_call 94; refine (ceil_any _ (by omega) _).mono ?_; rintro e w' ⟨rfl, rfl⟩))
  refine (UX0.out _).mono ?_
  rintro e w1 ⟨rfl, n2, rfl⟩
  go_wp2_with (first | (go_at_call 93; refine (nudge_down ux c (by omega) (by omega) CX _).mono ?_; rintro e w' ⟨rfl, rfl⟩) | fail)
  refine (floor_any _ (by omega) _).mono ?_
  rintro e w' ⟨rfl, rfl⟩
  have hR := HR.out
  by_cases k1 : (um + c + 3) / 4 ≤ (ux - c) / 4 / 10 * 10
  · rw [if_pos k1] at hR
    go_wp2_with fail
    go_ret2
    refine ⟨?_, below_drewN hW0.out _⟩
    rw [hR]; simp
  · rw [if_neg k1] at hR
    by_cases k2 : (um + c + 3) / 4 < (ux - c) / 4
    · rw [if_pos k2] at hR
      go_wp2_with fail
      refine (UU0.out _).mono ?_
      rintro e w1 ⟨rfl, n3, rfl⟩
      go_wp2_with (go_at_call 96; refine (round_any uu (by omega) _).mono ?_; rintro e w' ⟨rfl, rfl⟩)
      go_ret2
      refine ⟨?_, below_drewN hW0.out _⟩
      rw [hR]; simp
    · rw [if_neg k2] at hR
      go_wp2_with fail
      go_ret2
      refine ⟨?_, below_drewN hW0.out _⟩
      rw [hR]; simp
/-- The shortest decimal, for every float. -/
theorem shortFloat_any (w : World) (h : PowTab w) (m : Nat) (hm1 : topM ≤ m) (hm2 : m < 18446744073709551616) (e : Int) (he1 : -1137 ≤ e) (he2 : e ≤ 960) (hd : m % 2048 = 0) (hsub : e < -1085 → m % 2 ^ (-1074 - e).toNat = 0) :
    Calls Tryz.prog 70 #[.int .u64 m, .int .i64 e] w fun x w' => x = .returned (.tuple #[.int .u64 (shortN m e).1, .int .i64 (shortN m e).2]) ∧ Below w.heap.size w w' := by
  by_cases h1 : e < -1085
  · by_cases h2 : topM < m
    · exact shortFloat_C w h m h2 hm2 e he1 h1 (hsub h1)
    · exact shortFloat_C2 w h m hm1 (by omega) hm2 e he1 h1 (hsub h1)
  · by_cases h2 : topM < m
    · exact shortFloat_B w h m h2 hm2 hd e (by omega) he2
    · by_cases h3 : -1085 < e
      · have h4 : m = topM := by omega
        subst h4
        exact shortFloat_A w h e h3 he2
      · exact shortFloat_B2 w h m hm1 (by omega) hm2 hd e (by omega) (by omega)
end Go.Proofs.YtkaeaiagmihmgaaGreatDoor

namespace Go.Proofs.YtkaeaiagmihmgaaGreatDoor
open Go.RowKit Go.Sort

/-- The small powers of ten lie in memory. -/
structure TenTab (w : World) : Prop where
  at_ : ∀ i, i < 20 → w.cell? ⟨2, i, none⟩ = some (.int .u64 ((10 ^ i : Nat) : Int))
theorem TenTab.below {w w' : World} (h : TenTab w) (hb : Below w.heap.size w w') : TenTab w' := by
  have hl := World.block_lt_of_cell? w _ (h.at_ 0 (by omega))
  exact ⟨fun i hi => (hb.cell (p := ⟨2, i, none⟩) hl).trans (h.at_ i hi)⟩
theorem TenTab.alloc {w : World} (h : TenTab w) (o : Obj) : TenTab (w.alloc o) := h.below ((Below.refl _ _).alloc (Nat.le_refl _) _)

theorem bitLen_bounds (x : Nat) (h0 : 0 < x) (h : x < 2 ^ 64) : ∃ n, Lib.bitLen x = n + 1 ∧ 2 ^ n ≤ x ∧ x < 2 ^ (n + 1) := by
  induction x using Nat.strongRecOn with
  | ind x ih =>
    have e := Lib.bitLen_half x (by omega) h
    rcases Nat.lt_or_ge x 2 with h2 | h2
    · have : x = 1 := by omega
      subst this
      exact ⟨0, by decide, by decide, by decide⟩
    · obtain ⟨n, e1, e2, e3⟩ := ih (x / 2) (by omega) (by omega) (by omega)
      refine ⟨n + 1, by omega, ?_, ?_⟩
      · rw [Nat.pow_succ]; omega
      · rw [Nat.pow_succ]; omega

def chkLen (n : Nat) : Bool := decide (0 ≤ lgTen (n + 1)) && decide (2 ^ (n + 1) ≤ 10 ^ ((lgTen (n + 1)).toNat + 1)) && (decide (lgTen (n + 1) = 0) || decide (10 ^ ((lgTen (n + 1)).toNat - 1) ≤ 2 ^ n))
theorem chkLen_all : (List.range 60).all chkLen = true := by kernel_rfl
theorem chkLen_at {n : Nat} (h : n < 60) : 0 ≤ lgTen (n + 1) ∧ 2 ^ (n + 1) ≤ 10 ^ ((lgTen (n + 1)).toNat + 1) ∧ (lgTen (n + 1) = 0 ∨ 10 ^ ((lgTen (n + 1)).toNat - 1) ≤ 2 ^ n) := by
  have := List.all_eq_true.1 chkLen_all n (by simpa using h)
  unfold chkLen at this
  simp only [Bool.and_eq_true, Bool.or_eq_true, decide_eq_true_eq] at this
  exact ⟨this.1.1, this.1.2, this.2⟩

theorem bool2i_1 (b : Bool) (hb : b = true) (w : World) : Calls Tryz.prog 83 #[.bool b] w fun e w' => e = .returned (.int .i64 1) ∧ w = w' := by
  subst hb
  go_enter Tryz.func83, Tryz.ntmps83
  go_wp2
  go_ret
  exact ⟨rfl, rfl⟩
theorem bool2i_0 (b : Bool) (hb : b = false) (w : World) : Calls Tryz.prog 83 #[.bool b] w fun e w' => e = .returned (.int .i64 0) ∧ w = w' := by
  subst hb
  go_enter Tryz.func83, Tryz.ntmps83
  go_wp2
  go_ret
  exact ⟨rfl, rfl⟩

set_option maxRecDepth 100000 in
set_option maxHeartbeats 800000 in
theorem numDigits_any (w : World) (h : TenTab w) (d : Nat) (h0 : 0 < d) (hd : d < 100000000000000000) :
    Calls Tryz.prog 54 #[.int .u64 d] w fun e w' => ∃ nd : Nat, 1 ≤ nd ∧ nd ≤ 17 ∧ 10 ^ (nd - 1) ≤ d ∧ d < 10 ^ nd ∧ e = .returned (.int .i64 nd) ∧ w = w' := by
  obtain ⟨n, e1, e2, e3⟩ := bitLen_bounds d h0 (by omega)
  have hn : n < 57 := by
    rcases Nat.lt_or_ge n 57 with h1 | h1
    · exact h1
    · have : 2 ^ 57 ≤ 2 ^ n := Nat.pow_le_pow_right (by omega) h1
      omega
  obtain ⟨k1, k2, k3⟩ := chkLen_at (n := n) (by omega)
  have k4 : lgTen (n + 1) ≤ 17 := by unfold lgTen; omega
  obtain ⟨k, hk⟩ : ∃ k : Nat, lgTen (n + 1) = (k : Int) := ⟨(lgTen (n + 1)).toNat, by omega⟩
  have hkN : (lgTen (n + 1)).toNat = k := by omega
  rw [hkN] at k2 k3
  have ht := h.at_ k (by omega)
  have L := len64_at d (n + 1) (by omega) e1 w
  have LL := Lib.hid L
  have hlg := log10_any ((n + 1 : Nat) : Int) (by omega) (by omega) w
  rw [show ((n + 1 : Nat) : Int) = (n : Int) + 1 by omega, hk] at hlg
  have HL := Lib.hid hlg
  have hk17 : k ≤ 17 := by omega
  clear L hlg h
  by_cases hb : 10 ^ k ≤ d
  · have fin : 1 ≤ k + 1 ∧ k + 1 ≤ 17 ∧ 10 ^ (k + 1 - 1) ≤ d ∧ d < 10 ^ (k + 1) := by
      refine ⟨by omega, ?_, hb, Nat.lt_of_lt_of_le e3 k2⟩
      rcases Nat.lt_or_ge k 17 with h1 | h1
      · omega
      · have : 10 ^ 17 ≤ 10 ^ k := Nat.pow_le_pow_right (by omega) h1
        omega
    have FIN := Lib.hid (show ∀ k', k' = k → _ from fun k' (h : k' = k) => (show 1 ≤ k' + 1 ∧ k' + 1 ≤ 17 ∧ 10 ^ (k' + 1 - 1) ≤ d ∧ d < 10 ^ (k' + 1) from by rw [h]; exact fin))
    clear fin e2 e3 k2 k3
    generalize 10 ^ k = t at *
    go_enter Tryz.func54, Tryz.ntmps54
    go_wp2_with (go_at_call 62; refine LL.out.mono ?_; rintro e w' ⟨rfl, rfl⟩)
    refine HL.out.mono ?_
    rintro e w' ⟨rfl, rfl⟩
    go_wp2_with (go_at_call 83; refine (bool2i_1 _ (by first | rfl | assumption | (simp; omega)) _).mono ?_; rintro e w' ⟨rfl, rfl⟩)
    go_ret
    obtain ⟨f1, f2, f3, f4⟩ := FIN.out k rfl
    exact ⟨k + 1, f1, f2, f3, f4, by simp, rfl⟩
  · have fin : 1 ≤ k ∧ k ≤ 17 ∧ 10 ^ (k - 1) ≤ d ∧ d < 10 ^ k := by
      have hk0 : 1 ≤ k := by
        rcases Nat.eq_zero_or_pos k with h1 | h1
        · subst h1; simp at hb; omega
        · exact h1
      refine ⟨hk0, hk17, ?_, by omega⟩
      rcases k3 with k3 | k3
      · omega
      · exact Nat.le_trans k3 e2
    have FIN := Lib.hid (show ∀ k', k' = k → _ from fun k' (h : k' = k) => (show 1 ≤ k' ∧ k' ≤ 17 ∧ 10 ^ (k' - 1) ≤ d ∧ d < 10 ^ k' from by rw [h]; exact fin))
    clear fin e2 e3 k2 k3
    generalize 10 ^ k = t at *
    go_enter Tryz.func54, Tryz.ntmps54
    go_wp2_with (go_at_call 62; refine LL.out.mono ?_; rintro e w' ⟨rfl, rfl⟩)
    refine HL.out.mono ?_
    rintro e w' ⟨rfl, rfl⟩
    go_wp2_with (go_at_call 83; refine (bool2i_0 _ (by first | rfl | assumption | (simp; omega)) _).mono ?_; rintro e w' ⟨rfl, rfl⟩)
    go_ret
    obtain ⟨f1, f2, f3, f4⟩ := FIN.out k rfl
    exact ⟨k, f1, f2, f3, f4, by simp, rfl⟩

theorem zeros_any {w : World} {g nd : Nat} {t : TypeId} (hn : nd ≤ 32) (h : At w g t (Array.replicate 32 (.int .u8 0))) : Holds (fun (b : UInt8) => Value.int .u8 (b.toNat : Int)) w g 0 (Array.replicate nd (0 : UInt8)) := by
  intro j hj
  have hj : j < nd := by simpa using hj
  refine ⟨?_, by simpa using h.unfrozen (0 + j)⟩
  rw [h.cell]
  simp [hj, show j < 32 by omega]

theorem dg_zero {u j : Nat} : (Lib.dg u j).toNat = 48 + u / 10 ^ j % 10 := by
  unfold Lib.dg
  rw [UInt8.toNat_ofNat']
  exact Nat.mod_eq_of_lt (by omega)

theorem dig_at {d d' a b : Nat} (h : d = d' * 10 ^ a) : d / 10 ^ (a + b) = d' / 10 ^ b := by
  rw [h, Nat.pow_add, ← Nat.div_div_eq_div_mul, Nat.mul_div_cancel _ (Nat.pos_of_ne_zero (by simp))]

set_option maxRecDepth 100000 in
set_option maxHeartbeats 1600000 in
theorem setDigits_any (w : World) (g : Nat) (h : At w g 87 (Array.replicate 32 (.int .u8 0))) (d nd : Nat) (p : Int) (hn1 : 1 ≤ nd) (hn2 : nd ≤ 17) (hd1 : 10 ^ (nd - 1) ≤ d) (hd2 : d < 10 ^ nd) (hp1 : -1000 ≤ p) (hp2 : p ≤ 1000) :
    Calls Tryz.prog 64 #[.slice (some ⟨g, 0, none⟩) 32 32, .int .u64 d, .int .i64 p, .int .i64 nd] w fun e w' => ∃ n d' : Nat, 1 ≤ n ∧ n ≤ nd ∧ d = d' * 10 ^ (nd - n) ∧ d' % 10 ≠ 0 ∧
      e = .returned (.tuple #[.int .i64 (nd + p), .int .i64 n]) ∧ (∀ j, j < n → w'.cell? ⟨g, j, none⟩ = some (.int .u8 (48 + d' / 10 ^ (n - 1 - j) % 10 : Nat))) ∧ w.grownBy w' (some g) := by
  have hd64 : d < 18446744073709551616 := by
    have : 10 ^ nd ≤ 10 ^ 17 := Nat.pow_le_pow_right (by omega) hn2
    omega
  have hc := Tryz.internal_strconv_formatBase10 g 0 32 d (Array.replicate nd 0) w (zeros_any (by omega) h) (by simpa using hd2) hd64 (by simp; omega)
  have hH := Lib.hid (zeros_any (nd := nd) (by omega) h)
  have hA := Lib.hid h
  clear h
  rw [Array.size_replicate] at hc
  have HC0 := Lib.hid hc
  have HD1 := Lib.hid hd1
  have HD2 := Lib.hid hd2
  clear hc hd1 hd2
  go_enter Tryz.func64, Tryz.ntmps64
  go_wp2_with fail
  refine HC0.out.mono ?_
  rintro e w1 ⟨rfl, n, v', dk, hw1, hF⟩
  have hcell : ∀ j, j < nd → w1.cell? ⟨g, j, none⟩ = some (.int .u8 ((48 + d / 10 ^ (nd - 1 - j) % 10 : Nat) : Int)) := by
    intro j hj
    rw [hw1, World.cell?_drewN]
    have := cell?_putRow (fun (b : UInt8) => Value.int .u8 (b.toNat : Int)) w g 0 (Array.replicate nd 0) dk hH.out (by rw [hF.size]; simp) j (by rw [hF.size]; exact hj)
    simp only [Nat.zero_add] at this
    rw [this, hF.done j (by omega) hj, dg_zero]
  have hgr : w.grownBy w1 (some g) := by rw [hw1]; exact grown_putRow w g dk n
  have HC := Lib.hid hcell
  clear hw1 hF hcell
  go_wp2
  go_loop [3] (fun t => ∃ k d' : Nat, 1 ≤ k ∧ k ≤ nd ∧ d = d' * 10 ^ (nd - k) ∧ t = .int .i64 k) (fun t => (intOf t).toNat)
  case atStart => exact ⟨nd, d, by omega, by omega, by simp, rfl⟩
  case round =>
    obtain ⟨k, d', hk1, hk2, hkd, rfl⟩ := hrel
    have hx := HC.out (k - 1) (by omega)
    rw [show nd - 1 - (k - 1) = (nd - k) + 0 by omega, dig_at hkd, Nat.pow_zero, Nat.div_one] at hx
    by_cases h1 : d' % 10 = 0
    · rw [h1] at hx
      have hk3 : 2 ≤ k := by
        rcases Nat.lt_or_ge k 2 with h2 | h2
        · have hk0 : k = 1 := by omega
          subst hk0
          have h3 := HD2.out
          have h4 := HD1.out
          rw [hkd] at h3 h4
          have h5 : 10 ^ nd = 10 * 10 ^ (nd - 1) := by rw [← Nat.pow_succ']; congr 1; omega
          rw [h5] at h3
          have h6 := Nat.lt_of_mul_lt_mul_right h3
          rcases Nat.eq_zero_or_pos d' with h7 | h7
          · subst h7
            have : 0 < 10 ^ (nd - 1) := Nat.pos_of_ne_zero (by simp)
            omega
          · omega
        · exact h2
      have hx2 : w1.cell? ⟨g, k - 1, none⟩ = some (.int .u8 48) := hx
      have HN : d = d' / 10 * 10 ^ (nd - (k - 1)) := by
        have e1 : nd - (k - 1) = (nd - k) + 1 := by omega
        rw [e1, Nat.pow_succ', ← Nat.mul_assoc, Nat.div_mul_cancel (Nat.dvd_of_mod_eq_zero h1)]
        exact hkd
      have HNN := Lib.hid HN
      clear HN hx hkd
      go_wp2
      refine ⟨⟨k - 1, d' / 10, by omega, by omega, HNN.out, by congr 1; omega⟩, by simp [intOf]; omega⟩
    · have hx2 : (((48 + d' % 10 : Nat) : Int) == 48) = false := by rw [beq_eq_false_iff_ne]; omega
      have HKD := Lib.hid hkd
      clear hkd
      generalize ht : ((48 + d' % 10 : Nat) : Int) = t at *
      go_wp2
      go_ret2
      refine ⟨k, hk1, hk2, d', HKD.out, h1, rfl, fun j hj => ?_, hgr⟩
      have := HC.out j (by omega)
      rw [show nd - 1 - j = (nd - k) + (k - 1 - j) by omega, dig_at HKD.out] at this
      exact this
end Go.Proofs.YtkaeaiagmihmgaaGreatDoor
