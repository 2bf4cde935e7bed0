/- The walks of Home and Shard (package cell, and the reference of layer 7), and of the laws' first tests. -/
import Derived.Test.YtcjbnpeopalbfaaDoorCellJ
import Derived.Test.YtcjbnpeopalbfaaDoorCrcB
namespace Go.Proofs.YtcjbnpeopalbfaaDoor
open Go.RowKit

theorem ok_of_good {v : Vl} (g : goodV v = true) (i : I64 v.num) : v.Ok := by
  refine ⟨?_, i, ?_⟩
  · have := (goodV_iff _).1 g
    unfold I64
    omega
  · rcases (goodV_iff _).1 g with ⟨_, _, h⟩ | ⟨_, h⟩ | ⟨_, h, _⟩ | ⟨_, _, h⟩
    · rw [h]; unfold maxLen; simp
    · rw [h]; unfold maxLen; simp
    · rw [h]; unfold maxLen; simp
    · unfold maxLen; omega

set_option maxRecDepth 100000 in
set_option maxHeartbeats 1600000 in
theorem home_any (s : List UInt8) (hs : s.length ≤ 1000000) (w : World) (ht : Lens w) :
    Calls Tryd.prog 22 #[.string ⟨s.toArray⟩] w fun e w' => e = .returned (.string ⟨(homeK s).toArray⟩) ∧ Below w.heap.size w w' := by
  have hH : homeK s = match parseK s with | some p => if p.kind = 102 then rowK p.table p.key else s | none => s := rfl
  cases hp : parseK s with
  | none =>
    rw [hp] at hH
    simp only at hH
    rw [hH]
    go_enter Tryd.func22, Tryd.ntmps22
    go_wp2_with fail
    refine (parse_any s hs w).mono ?_
    rintro e w1 ⟨rfl, b1⟩
    rw [hp]
    simp only [parseRes, Pl.val, Pl.zero, nullV]
    go_wp2_with fail
    go_ret
    exact ⟨rfl, b1.alloc b1.size _⟩
  | some p =>
    have hpp := parse_some hp
    rw [hp] at hH
    simp only at hH
    obtain ⟨p0, p1, p2, ⟨p3, p4, p5⟩, p6, ⟨p7, p8, p9⟩⟩ := p
    simp only at hH
    have ok := Lib.hid (ok_of_good hpp.key hpp.keyN)
    have l1 := hpp.table
    simp only at ok l1
    by_cases hk : p0 = 102
    · subst hk
      rw [if_pos rfl] at hH
      rw [hH]
      clear hH hpp
      go_enter Tryd.func22, Tryd.ntmps22
      go_wp2_with fail
      refine (parse_any s hs w).mono ?_
      rintro e w1 ⟨rfl, b1⟩
      rw [hp]
      simp only [parseRes, Pl.val]
      have b2 := b1.alloc b1.size (.cells #[.int .u8 102, .string ⟨p1.toArray⟩, .string ⟨p2.toArray⟩, .int .i64 p3, .int .i64 p4, .string ⟨p5.toArray⟩, .string ⟨p6.toArray⟩, .int .i64 p7, .int .i64 p8, .string ⟨p9.toArray⟩] 32)
      go_wp2_with fail
      refine (ofRow_any p1 (by unfold maxLen; omega) ⟨p3, p4, p5⟩ ok.out _ (ht.below b2)).mono ?_
      rintro e w3 ⟨rfl, b3⟩
      have b4 := below_in b2 b3
      go_wp2_with fail
      go_ret
      exact ⟨rfl, b4⟩
    · rw [if_neg hk] at hH
      rw [hH]
      have hk' : ((p0 : Int) == 102) = false := beq_eq_false_iff_ne.2 (by omega)
      clear hH hpp hk
      go_enter Tryd.func22, Tryd.ntmps22
      go_wp2_with fail
      refine (parse_any s hs w).mono ?_
      rintro e w1 ⟨rfl, b1⟩
      rw [hp]
      simp only [parseRes, Pl.val]
      go_wp2_with fail
      go_ret
      exact ⟨rfl, b1.alloc b1.size _⟩

def clampN (n : Int) : Nat := if n < 1 then 1 else if 4 < n then 4 else n.toNat
theorem clampN_is (n : Int) : 1 ≤ clampN n ∧ clampN n ≤ 4 := by unfold clampN; split <;> (try split) <;> omega

theorem shard_wrap {c m : Nat} (h3 : 1 ≤ m) (h4 : m ≤ 4) : wrap64 ((c : Int) % (m : Int)) = ((c % m : Nat) : Int) := by
  have h5 : c % m < m := Nat.mod_lt _ (by omega)
  rw [show (c : Int) % (m : Int) = ((c % m : Nat) : Int) from rfl]
  unfold wrap64
  omega

set_option maxRecDepth 100000 in
set_option maxHeartbeats 800000 in
theorem rshard_any (s : List UInt8) (hs : s.length ≤ maxLen) (n : Int) (w : World) :
    Calls Tryd.prog 24 #[.string ⟨s.toArray⟩, .int .i64 n] w fun e w' => e = .returned (.int .i64 ((crcOf s % clampN n : Nat) : Int)) ∧ w = w' := by
  have hl := crcOf_lt s
  have hcases : (n < 1 ∧ clampN n = 1) ∨ (¬ n < 1 ∧ 4 < n ∧ clampN n = 4) ∨ (¬ n < 1 ∧ ¬ 4 < n ∧ ∃ m : Nat, n = (m : Int) ∧ clampN n = m ∧ 1 ≤ m ∧ m ≤ 4) := by
    unfold clampN
    by_cases h1 : n < 1
    · exact .inl ⟨h1, if_pos h1⟩
    · by_cases h2 : 4 < n
      · exact .inr (.inl ⟨h1, h2, by rw [if_neg h1, if_pos h2]⟩)
      · exact .inr (.inr ⟨h1, h2, n.toNat, by omega, by rw [if_neg h1, if_neg h2], by omega, by omega⟩)
  rcases hcases with ⟨h1, e⟩ | ⟨h1, h2, e⟩ | ⟨h1, h2, m, e1, e, h3, h4⟩
  · rw [e]
    go_enter Tryd.func24, Tryd.ntmps24
    go_wp2_with fail
    refine (crcRef_any s hs w).mono ?_
    rintro e w1 ⟨rfl, rfl⟩
    go_wp2_with fail
    go_ret
    exact ⟨ret_i (by omega), rfl⟩
  · rw [e]
    go_enter Tryd.func24, Tryd.ntmps24
    go_wp2_with fail
    refine (crcRef_any s hs w).mono ?_
    rintro e w1 ⟨rfl, rfl⟩
    go_wp2_with fail
    go_ret
    exact ⟨ret_i (by omega), rfl⟩
  · subst e1
    rw [e]
    have hm0 : ((m : Int) == 0) = false := beq_eq_false_iff_ne.2 (by omega)
    have hm1 : IntKind.u32.wrap (m : Int) = (m : Int) := by rw [IntKind.wrap_u32]; omega
    go_enter Tryd.func24, Tryd.ntmps24
    go_wp2_with fail
    refine (crcRef_any s hs w).mono ?_
    rintro e w1 ⟨rfl, rfl⟩
    go_wp2_with fail
    go_ret
    refine ⟨ret_i ?_, rfl⟩
    exact shard_wrap h3 h4

/-- The laws' shard of a text. -/
def shardK (s : List UInt8) (n : Int) : Int := ((crcOf (homeK s) % clampN n : Nat) : Int)

theorem home_len (s : List UInt8) (hs : s.length ≤ 1000000) : (homeK s).length ≤ maxLen := by
  unfold homeK
  split
  · split
    · have := rowK_len (Pl.table ‹Pl›) (Pl.key ‹Pl›); unfold maxLen; omega
    · unfold maxLen; omega
  · unfold maxLen; omega

set_option maxRecDepth 100000 in
set_option maxHeartbeats 800000 in
theorem shard_any (s : List UInt8) (hs : s.length ≤ 1000000) (n : Int) (w : World) (ht : Lens w) :
    Calls Tryd.prog 23 #[.string ⟨s.toArray⟩, .int .i64 n] w fun e w' => e = .returned (.int .i64 (shardK s n)) ∧ Below w.heap.size w w' := by
  have hl := crcOf_lt (homeK s)
  have hhl := home_len s hs
  unfold shardK
  obtain ⟨m, e1, h3, h4, e⟩ : ∃ m : Nat, min (max n 1) 4 = (m : Int) ∧ 1 ≤ m ∧ m ≤ 4 ∧ clampN n = m := by
    refine ⟨clampN n, ?_, (clampN_is n).1, (clampN_is n).2, rfl⟩
    unfold clampN
    split
    · omega
    split
    · omega
    · omega
  rw [e]
  have hm0 : ((m : Int) == 0) = false := beq_eq_false_iff_ne.2 (by omega)
  have hm1 : IntKind.u32.wrap (m : Int) = (m : Int) := by rw [IntKind.wrap_u32]; omega
  clear e
  go_enter Tryd.func23, Tryd.ntmps23
  go_wp2_with fail
  refine (home_any s hs w ht).mono ?_
  rintro e w1 ⟨rfl, b1⟩
  go_wp2_with fail
  refine (of_one (homeK s) hhl w1 9).mono ?_
  rintro e w2 ⟨rfl, rfl⟩
  have b2 := b1.alloc b1.size (.cells #[.string ⟨(homeK s).toArray⟩] 9)
  go_wp2_with fail
  go_ret
  exact ⟨ret_i (shard_wrap h3 h4), b2⟩
end Go.Proofs.YtcjbnpeopalbfaaDoor
