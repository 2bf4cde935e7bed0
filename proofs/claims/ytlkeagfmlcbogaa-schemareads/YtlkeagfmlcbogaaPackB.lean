/- The walk of package pack's takeGroups. -/
import Derived.Test.YtlkeagfmlcbogaaPackA
import Derived.Lib.VarintBits
namespace Go.Proofs.Ytlkeagfmlcbogaa
open Go.RowKit

/-- What takeGroups comes to at the bytes that are left, i groups having been read that spell acc. -/
def grp (i acc : Nat) : List UInt8 → Option (Nat × Nat)
  | [] => none
  | b :: r => if i = 10 then none else if i = 9 ∧ 1 < b.toNat then none else
      if b.toNat < 128 then (if b.toNat = 0 ∧ 0 < i then none else some (acc + b.toNat * 2 ^ (7 * i), i + 1))
      else grp (i + 1) (acc + b.toNat % 128 * 2 ^ (7 * i)) r

def grpRes : Option (Nat × Nat) → Value
  | some (u, k) => .tuple #[.int .u64 u, .int .i64 k]
  | none => .tuple #[.int .u64 0, .int .i64 0]

theorem or_group (k acc b : Nat) (hk : k ≤ 9) (hb : b < 256) (h9 : k = 9 → b ≤ 1) (hacc : acc < 2 ^ (7 * k)) :
    bits .or .u64 (acc : Int) (IntKind.u64.wrap (IntKind.u64.wrap (bits .and .u8 (b : Int) 127) * 2 ^ (7 * k))) = ((acc + b % 128 * 2 ^ (7 * k) : Nat) : Int) := by
  rw [u8_and127 _ (by omega) (by omega), wraps_u64 ((b : Int) % 128) (by omega) (by omega)]
  have e : ((b : Int) % 128) * 2 ^ (7 * k) = ((b % 128 * 2 ^ (7 * k) : Nat) : Int) := by
    rw [Int.natCast_mul, Int.natCast_pow]; rfl
  have hlt : b % 128 * 2 ^ (7 * k) < 2 ^ 64 := by
    by_cases h : k = 9
    · subst h
      have := h9 rfl
      have h2 : b % 128 ≤ 1 := by omega
      calc b % 128 * 2 ^ (7 * 9) ≤ 1 * 2 ^ (7 * 9) := Nat.mul_le_mul_right _ h2
        _ < 2 ^ 64 := by decide
    · have h1 : 2 ^ (7 * k) ≤ 2 ^ 56 := Nat.pow_le_pow_right (by decide) (by omega)
      calc b % 128 * 2 ^ (7 * k) ≤ 127 * 2 ^ 56 := Nat.mul_le_mul (by omega) h1
        _ < 2 ^ 64 := by decide
  rw [e, wraps_u64 _ (by omega) (by omega)]
  have hmod : ((b % 128 * 2 ^ (7 * k) : Nat) : Int) % 2 ^ (7 * k) = 0 := by
    rw [Int.natCast_mul, Int.natCast_pow]; exact Int.mul_emod_left _ _
  have hacc64 : (acc : Int) < 2 ^ 64 := by
    have h1 : 2 ^ (7 * k) ≤ 2 ^ 63 := Nat.pow_le_pow_right (by decide) (by omega)
    have h2 : acc < 2 ^ 63 := Nat.lt_of_lt_of_le hacc h1
    omega
  rw [bits_join_low .u64 64 (by decide) wraps_u64 (7 * k) (acc : Int) _ (by omega) (by have := Int.ofNat_lt.2 hacc; rw [Int.natCast_pow] at this; exact this) hacc64 (by omega) hmod (by omega)]
  rw [Int.natCast_add]

theorem drop_at (s : ByteArray) (k : Nat) (h : k < s.size) : s.data.toList.drop k = s[k] :: s.data.toList.drop (k + 1) := by
  have h' : k < s.data.toList.length := by simpa using h
  rw [List.drop_eq_getElem_cons h']
  rfl

theorem acc_more (k acc b : Nat) (hacc : acc < 2 ^ (7 * k)) : acc + b % 128 * 2 ^ (7 * k) < 2 ^ (7 * (k + 1)) := by
  have e : 2 ^ (7 * (k + 1)) = 128 * 2 ^ (7 * k) := by rw [show 7 * (k + 1) = 7 * k + 7 by omega, Nat.pow_add]; omega
  have h1 : b % 128 * 2 ^ (7 * k) ≤ 127 * 2 ^ (7 * k) := Nat.mul_le_mul_right _ (by omega)
  rw [e]
  omega

theorem grp_bad9 (acc : Nat) (b : UInt8) (r : List UInt8) (h : 1 < b.toNat) : grp 9 acc (b :: r) = none := by simp [grp, h]
theorem grp_zero (k acc : Nat) (b : UInt8) (r : List UInt8) (hk : k < 10) (hb : b.toNat = 0) (h0 : 0 < k) : grp k acc (b :: r) = none := by
  have h10 : ¬ k = 10 := by omega
  simp [grp, hb, h0, h10]
theorem grp_last (k acc : Nat) (b : UInt8) (r : List UInt8) (hk : k < 10) (h9 : k = 9 → b.toNat ≤ 1) (hb : b.toNat < 128) (h0 : ¬ (b.toNat = 0 ∧ 0 < k)) :
    grp k acc (b :: r) = some (acc + b.toNat % 128 * 2 ^ (7 * k), k + 1) := by
  have h10 : ¬ k = 10 := by omega
  have h9' : ¬ (k = 9 ∧ 1 < b.toNat) := fun h => by have := h9 h.1; omega
  rw [grp, if_neg h10, if_neg h9', if_pos hb, if_neg h0, Nat.mod_eq_of_lt hb]
theorem grp_go (k acc : Nat) (b : UInt8) (r : List UInt8) (hk : k < 9) (hb : ¬ b.toNat < 128) :
    grp k acc (b :: r) = grp (k + 1) (acc + b.toNat % 128 * 2 ^ (7 * k)) r := by
  have h10 : ¬ k = 10 := by omega
  have h9' : ¬ (k = 9 ∧ 1 < b.toNat) := fun h => by omega
  rw [grp, if_neg h10, if_neg h9', if_neg hb]
theorem grp_ten (acc : Nat) (l : List UInt8) : grp 10 acc l = none := by cases l <;> simp [grp]
theorem grp_nil (k acc : Nat) : grp k acc [] = none := by simp [grp]

theorem grpRes_some (u k : Nat) (x y : Int) (hx : (u : Int) = x) (hy : (k : Int) = y) : grpRes (some (u, k)) = .tuple #[.int .u64 x, .int .i64 y] := by subst hx; subst hy; rfl
theorem ret_two {k j : IntKind} {a b : Int} {v : Value} (h : v = .tuple #[.int k a, .int j b]) : Ending.returned (.tuple #[.int k a, .int j b]) = .returned v := by rw [h]

set_option maxHeartbeats 400000 in
set_option maxRecDepth 100000 in
theorem takeGroups_any (s : ByteArray) (hs : s.size ≤ maxLen) (w : World) :
    Calls Try.prog 68 #[.string s] w fun e w' => e = .returned (grpRes (grp 0 0 s.data.toList)) ∧ w = w' := by
  unfold maxLen at hs
  by_cases h10 : 10 < s.size
  all_goals
    go_enter Try.func68, Try.ntmps68
    go_wp2
    go_loop [4, 10] (fun u i => ∃ k acc : Nat, k ≤ 10 ∧ k ≤ s.size ∧ i = .int .i64 k ∧ u = .int .u64 acc ∧ Hid (acc < 2 ^ (7 * k)) ∧ Hid (grp 0 0 s.data.toList = grp k acc (s.data.toList.drop k))) (fun _ i => 10 - (intOf i).toNat)
    case atStart => exact ⟨0, 0, by omega, by omega, rfl, rfl, by show _ < _; simp, rfl⟩
    case round =>
      obtain ⟨k, acc, hk, hks, rfl, rfl, hacc, HG⟩ := hrel
      by_cases hlt : k < 10 ∧ k < s.size
      · obtain ⟨hlt, hsz⟩ := hlt
        have hb := s[k].toNat_lt
        have hd := Lib.hid (drop_at s k hsz)
        by_cases c9 : k = 9 ∧ 1 < s[k].toNat
        · obtain ⟨rfl, c9⟩ := c9
          go_wp2
          go_ret2
          refine ⟨ret_two ?_, rfl⟩
          rw [HG.out, hd.out, grp_bad9 _ _ _ c9]; rfl
        have h9 : k = 9 → s[k].toNat ≤ 1 := by omega
        have hv := Lib.hid (or_group k acc s[k].toNat (by omega) hb h9 hacc.out)
        have h9' := Lib.hid h9
        clear h9
        by_cases c2 : s[k].toNat < 128
        · by_cases c3 : s[k].toNat = 0 ∧ 0 < k
          · obtain ⟨c3, c4⟩ := c3
            have c3' : ((s[k].toNat : Int) == 0) = true := by simp; omega
            go_wp2
            all_goals
              go_ret2
              refine ⟨ret_two ?_, rfl⟩
              rw [HG.out, hd.out, grp_zero _ _ _ _ hlt c3 c4]; rfl
          · by_cases c5 : s[k].toNat = 0
            · obtain rfl : k = 0 := by omega
              obtain rfl : acc = 0 := by have := hacc.out; simp at this; exact this
              have hv' : bits .or .u64 0 (IntKind.u64.wrap (IntKind.u64.wrap (bits .and .u8 0 127))) = 0 := by decide
              go_wp2
              go_ret2
              refine ⟨ret_two ?_, rfl⟩
              rw [HG.out, hd.out, grp_last _ _ _ _ hlt h9'.out c2 c3]
              exact grpRes_some _ _ _ _ (by rw [c5]; simp) rfl
            · have c3' : ((s[k].toNat : Int) == 0) = false := by simp; omega
              go_wp2
              all_goals
                go_ret2
                refine ⟨ret_two ?_, rfl⟩
                rw [HG.out, hd.out, grp_last _ _ _ _ hlt h9'.out c2 c3]
                first
                  | exact grpRes_some _ _ _ _ hv.out.symm (by omega)
                  | (obtain rfl : k = 9 := by omega
                     have hv9 := hv.out.symm
                     rw [show (2 : Int) ^ (7 * 9) = 9223372036854775808 by decide] at hv9
                     exact grpRes_some _ _ _ _ hv9 (by omega))
        · have c2' : ¬ (s[k].toNat : Int) < 128 := by omega
          go_wp2
          all_goals
            refine ⟨⟨k + 1, _, by omega, by omega, by go_num, congrArg (Value.int .u64) hv.out, acc_more k acc _ hacc.out, ?_⟩, by simp [intOf]; omega⟩
            show _ = _
            rw [HG.out, hd.out, grp_go _ _ _ _ (by omega) c2]
      · go_wp2
        all_goals
          go_ret2
          refine ⟨ret_two ?_, rfl⟩
          rw [HG.out]
          by_cases hk2 : k = 10
          · subst hk2; rw [grp_ten]; rfl
          · rw [List.drop_eq_nil_of_le (by simp; omega), grp_nil]; rfl
end Go.Proofs.Ytlkeagfmlcbogaa
