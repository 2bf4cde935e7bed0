/- strconv's fmtEFG at nought; ftoa64 of whatever word. -/
/- strconv's ftoa64 of whatever word. -/
import Derived.Test.YtkaeaiagmihmgaaGreatDoorQFxB
import Derived.Test.YtkaeaiagmihmgaaGreatDoorQFxC
import Derived.Test.YtkaeaiagmihmgaaGreatDoorQFxD
import Derived.Test.YtkaeaiagmihmgaaGreatDoorQFxE
import Derived.Test.YtkaeaiagmihmgaaGreatDoorQFxF
import Derived.Test.YtkaeaiagmihmgaaGreatDoorQFw
import Derived.Test.YtkaeaiagmihmgaaGreatDoorQFmtA
import Derived.Deep.RegionHeld3
import Derived.BigQuiet
namespace Go.Proofs.YtkaeaiagmihmgaaGreatDoor
open Go.RowKit Go.Sort

set_option maxRecDepth 100000 in
set_option maxHeartbeats 3200000 in
theorem fmt_zero (w : World) (base : Nat) (v : Value) (neg : Bool) (hv : Owns w base 5 v []) (hb : base ≤ w.heap.size) :
    Calls Tryz.prog 61 #[v, .bool neg, .slice none 0 0, .int .i64 0, .int .i64 0, .int .i64 (-1), .int .u8 103, .bool true] w fun e w' =>
      ∃ v', e = .returned v' ∧ Owns w' base 5 v' ((if neg then [45] else []) ++ [48]) ∧ Grew w v w' v' := by
  obtain ⟨tx, htx⟩ : ∃ tx, (if neg = true then [45] else []) ++ [(48 : UInt8)] = tx := ⟨_, rfl⟩
  rw [htx]
  have HTX := Lib.hid htx
  clear htx
  have m1 : max (-1 : Int) 0 = 0 := rfl
  go_enter Tryz.func61, Tryz.ntmps61
  go_upto_if 178 with fail
  go_cut [0] (fun v1 w1 => Owns w1 base 5 v1 (if neg then [45] else []) ∧ Grew w v w1 v1)
  case first =>
    cases neg with
    | true =>
      go_wp2_with (at_builtin; refine wpList_append_byte w rfl (.tmp 179) (.tmp 180) 42 5 rfl base Tryz.underlying42 info_u8 v [] 45 45 rfl rfl hv rfl (by simp) hb ?_)
      intro g1 c1 w1 o1 r1
      go_wp2_with fail
      go_meet
      case rel => exact ⟨o1, r1⟩
    | false =>
      go_wp2_with fail
      go_meet
      case rel => exact ⟨hv, Grew.refl _ _⟩
  case rest =>
    obtain ⟨o1, r1⟩ := hcut
    generalize hxs : (if neg = true then [(45 : UInt8)] else []) = xs at o1
    have hxl : xs.length ≤ 1 := by rw [← hxs]; cases neg <;> simp
    have hfin : xs ++ [48] = tx := by rw [← HTX.out, hxs]
    have HFIN := Lib.hid hfin
    clear hxs hfin
    have b1 : base ≤ wc.heap.size := Nat.le_trans hb r1.grown.size
    go_wp2_with (at_builtin; refine wpList_append_byte wc rfl (.tmp 209) (.tmp 210) 42 5 rfl base Tryz.underlying42 info_u8 _ xs 48 _ rfl rfl o1 rfl (by omega) b1 ?_)
    intro g2 k2 w2 o2 r2
    rw [HFIN.out] at o2
    have r2' := r1.trans r2
    go_wp2_with fail
    go_ret
    exact ⟨_, rfl, o2, r2'⟩
end Go.Proofs.YtkaeaiagmihmgaaGreatDoor

namespace Go.Proofs.YtkaeaiagmihmgaaGreatDoor
open Go.RowKit Go.Sort

theorem shP_bounds {m : Nat} {e : Int} (h1 : -1137 ≤ e) (h2 : e ≤ 960) : -300 ≤ shP m e ∧ shP m e ≤ 330 := by
  unfold shP
  split
  · unfold skew; omega
  · split
    · unfold lgTen; omega
    · unfold lgTen; omega
theorem short_exp {m : Nat} {e : Int} (h1 : -1137 ≤ e) (h2 : e ≤ 960) : -340 ≤ (shortN m e).2 ∧ (shortN m e).2 ≤ 310 := by
  have := shP_bounds (m := m) h1 h2
  unfold shortN
  split
  · show -340 ≤ -(shP m e - 1) ∧ -(shP m e - 1) ≤ 310
    omega
  · show -340 ≤ -shP m e ∧ -shP m e ≤ 310
    omega

/-- The digits of d * 10 ^ p, zeros at the end struck, and where the point stands. -/
def DigitsOf (d : Nat) (p : Int) (ds : List UInt8) (dp : Int) : Prop :=
  ∃ nd n d' : Nat, 1 ≤ nd ∧ nd ≤ 17 ∧ 10 ^ (nd - 1) ≤ d ∧ d < 10 ^ nd ∧ 1 ≤ n ∧ n ≤ nd ∧ d = d' * 10 ^ (nd - n) ∧ d' % 10 ≠ 0 ∧
    ds = (List.range n).map (fun j => (48 + d' / 10 ^ (n - 1 - j) % 10).toUInt8) ∧ dp = nd + p
theorem pow_between {d a b : Nat} (h1 : 10 ^ (a - 1) ≤ d) (h2 : d < 10 ^ b) (ha : 1 ≤ a) : a ≤ b := by
  rcases Nat.lt_or_ge b a with h | h
  · have : 10 ^ b ≤ 10 ^ (a - 1) := Nat.pow_le_pow_right (by omega) (by omega)
    omega
  · exact h
theorem struck_one {x y a b : Nat} (h : x * 10 ^ a = y * 10 ^ b) (hx : x % 10 ≠ 0) (hy : y % 10 ≠ 0) : a = b := by
  rcases Nat.lt_trichotomy a b with h1 | h1 | h1
  · exfalso
    obtain ⟨c, rfl⟩ : ∃ c, b = a + (c + 1) := ⟨b - a - 1, by omega⟩
    rw [Nat.pow_add, Nat.mul_comm (10 ^ a), ← Nat.mul_assoc] at h
    have := Nat.eq_of_mul_eq_mul_right (Nat.pow_pos (by decide)) h
    rw [Nat.pow_succ, ← Nat.mul_assoc] at this
    omega
  · exact h1
  · exfalso
    obtain ⟨c, rfl⟩ : ∃ c, a = b + (c + 1) := ⟨a - b - 1, by omega⟩
    rw [Nat.pow_add, Nat.mul_comm (10 ^ b), ← Nat.mul_assoc] at h
    have := Nat.eq_of_mul_eq_mul_right (Nat.pow_pos (by decide)) h
    rw [Nat.pow_succ, ← Nat.mul_assoc] at this
    omega
theorem DigitsOf.one {d : Nat} {p dp dp' : Int} {ds ds' : List UInt8} (h : DigitsOf d p ds dp) (h' : DigitsOf d p ds' dp') : ds = ds' ∧ dp = dp' := by
  obtain ⟨nd, n, x, a1, a2, a3, a4, a5, a6, a7, a8, a9, a10⟩ := h
  obtain ⟨md, m, y, b1, b2, b3, b4, b5, b6, b7, b8, b9, b10⟩ := h'
  have e1 := pow_between a3 b4 a1
  have e2 := pow_between b3 a4 b1
  obtain rfl : nd = md := by omega
  have e3 := struck_one (a7.symm.trans b7) a8 b8
  obtain rfl : n = m := by omega
  rw [b7] at a7
  have e4 := Nat.eq_of_mul_eq_mul_right (Nat.pow_pos (by decide)) a7
  subst e4
  exact ⟨a9.trans b9.symm, a10.trans b10.symm⟩
theorem DigitsOf.len {d : Nat} {p dp : Int} {ds : List UInt8} (h : DigitsOf d p ds dp) : 1 ≤ ds.length ∧ ds.length ≤ 17 := by
  obtain ⟨nd, n, x, a1, a2, a3, a4, a5, a6, a7, a8, a9, a10⟩ := h
  rw [a9, List.length_map, List.length_range]
  omega

/-- fmtEFG, whatever the layout. -/
theorem fmt_any (w : World) (g base : Nat) (v : Value) (neg : Bool) (ds : List UInt8) (dp : Int) (hv : Owns w base 5 v []) (hb : base ≤ w.heap.size) (hd : Bytes w g 0 ds) (hg : g < w.heap.size) (hne : v.ownBlock ≠ some g)
    (hn1 : 1 ≤ ds.length) (hn2 : ds.length ≤ 17) (h1 : -400 ≤ dp) (h2 : dp ≤ 400) :
    Calls Tryz.prog 61 #[v, .bool neg, .slice (some ⟨g, 0, none⟩) 32 32, .int .i64 dp, .int .i64 ds.length, .int .i64 ds.length, .int .u8 103, .bool true] w fun e w' =>
      ∃ v', e = .returned v' ∧ Owns w' base 5 v' (textD neg ds dp) ∧ Grew w v w' v' := by
  unfold textD
  by_cases hE : dp < -3 ∨ 7 ≤ dp
  · rw [if_pos hE]
    rcases hE with hE | hE
    · exact fmtE_low w g base v neg ds dp hv hb hd hg hne hn1 hn2 h1 h2 hE
    · exact fmtE_high w g base v neg ds dp hv hb hd hg hne hn1 hn2 h1 h2 hE
  · rw [if_neg hE]
    by_cases hp : 0 < dp
    · by_cases hl : (ds.length : Int) ≤ dp
      · exact fmtF_whole w g base v neg ds dp hv hb hd hg hne hn1 hn2 hp (by omega) hl
      · exact fmtF_mixed w g base v neg ds dp hv hb hd hg hne hn1 hn2 hp (by omega) (by omega)
    · exact fmtF_small w g base v neg ds dp hv hb hd hg hne hn1 hn2 (by omega) (by omega)
end Go.Proofs.YtkaeaiagmihmgaaGreatDoor
