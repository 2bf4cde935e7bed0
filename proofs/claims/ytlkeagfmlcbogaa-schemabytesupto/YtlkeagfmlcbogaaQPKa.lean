/- Walks of package pack's leaf functions: toZigzag, fromZigzag, appendNumber. -/
/- The walk of package pack's takeGroups. -/
/- The walks of package pack's Reader. -/
/- The walks of package pack's Writer. -/
/- The walk of the laws' function 'alive'. -/
import Derived.Test.YtlkeagfmlcbogaaRows
import Derived.WalkKit
import Derived.WalkSpells
import Derived.WalkLawsBesides
import Derived.Lib.Hide
import Derived.Deep.LoopGhost
import Derived.Test.YtlkeagfmlcbogaaQMem
import Derived.Test.YtlkeagfmlcbogaaQInfo
import Derived.Lib.VarintBits
namespace Go.Proofs.Ytlkeagfmlcbogaa
open Go.RowKit

set_option maxRecDepth 100000 in
set_option maxHeartbeats 400000 in
theorem toZigzag_any (n : Int) (hI : I64 n) (w : World) :
    Calls Try.prog 65 #[.int .i64 n] w fun e w' => e = .returned (.int .u64 (Lib.zigzag n)) ∧ w = w' := by
  by_cases hn : n < 0
  · go_enter Try.func65, Try.ntmps65
    go_wp2
    go_ret
    exact ⟨ret_int (Lib.zigzag_neg hI.1 hn), rfl⟩
  · go_enter Try.func65, Try.ntmps65
    go_wp2
    go_ret
    refine ⟨ret_int ?_, rfl⟩
    rw [Lib.zigzag_nonneg (by omega), IntKind.wrap_u64, IntKind.wrap_u64]
    have := hI.2; omega

set_option maxRecDepth 100000 in
set_option maxHeartbeats 400000 in
theorem appendNumber_any (n : Int) (hI : I64 n) (base : Nat) (v : Value) (xs : List UInt8) (w : World) (ho : Owns w base 5 v xs) (hb : base ≤ w.heap.size)
    (hl : xs.length ≤ 1000000000) :
    Calls Try.prog 44 #[v, .int .i64 n] w fun e w' => ∃ g m cap, e = .returned (.slice (some ⟨g, 0, none⟩) m cap) ∧ Owns w' base 5 (.slice (some ⟨g, 0, none⟩) m cap) (xs ++ enc n) ∧ Grew w v w' (.slice (some ⟨g, 0, none⟩) m cap) := by
  obtain ⟨i0, hi0, hz0, hz1, hz2⟩ := info_parts info_u8
  go_enter Try.func44, Try.ntmps44
  go_wp2_with (go_at_call 65; refine (toZigzag_any n hI _).mono ?_; rintro e w' ⟨rfl, rfl⟩)
  go_loopw [0, 5] (fun v' t wr => ∃ (u : Nat) (ys : List UInt8), t = .int .u64 u ∧ U64 u ∧ Hid (ys ++ Lib.uvarint u = xs ++ Lib.uvarint (Lib.zigzag n)) ∧ Owns wr base 5 v' ys ∧ Grew w v wr v') (fun _ t _ => (intOf t).toNat)
  case atStart => exact ⟨_, xs, rfl, Lib.zigzag_lt hI.1 hI.2, rfl, ho, Grew.refl _ _⟩
  case round =>
    obtain ⟨u, ys, rfl, hu, hy, hown, hgr⟩ := hrel
    have hlen : ys.length + (Lib.uvarint u).length = xs.length + (Lib.uvarint (Lib.zigzag n)).length := by have := congrArg List.length hy.out; simpa using this
    have hlz : (Lib.uvarint (Lib.zigzag n)).length ≤ 10 := uvarint_len (Lib.zigzag_lt hI.1 hI.2)
    have hly : ys.length ≤ 2000000000 := by omega
    clear hlen hlz
    have hsz := hgr.grown.size
    have hown' : wr.ownsRow base 5 1 _ ys.length (Lib.byteCells ys) := hown
    by_cases hlt : u ≤ 127
    · go_wp2_with (at_builtin; refine wpList_append_lies _ rfl (.tmp 19) (.tmp 22) 50 rfl base 5 i0 (.int .u8 0) 1 1 Try.underlying50 hi0 hz0 hz1 hz2 rfl (by omega) _ _ _ rfl (hown'.alloc _) ⟨wr.heap.size, 0, none⟩ 1 1 [.int .u8 u] rfl rfl ?c1 ?c2 ?c3 ?c4 ?c5 ?c6 _ rfl ?_)
      case c1 =>
        intro j x hj
        match j, hj with
        | 0, hj => simp at hj; subst hj; simp [Addr.add]
      case c2 => intro x hx; simp at hx; subst hx; rfl
      case c3 => omega
      case c4 => unfold maxLen; omega
      case c5 => omega
      case c6 => simp; omega
      intro g cap w1 hown1 hg1 hat hlt1
      go_wp2
      go_ret
      refine ⟨_, _, _, rfl, ?_, (hgr.trans (Grew.alloc _ _ _)).trans (Grew.append hg1 (by simpa using hat))⟩
      have hs := owns_snoc (a := u) (by omega) rfl hown1
      unfold enc
      rw [← hy.out, Lib.uvarint_small (by omega)]
      exact hs
    · have h2 : (127 : Int) < u := by omega
      have hv := more_byte u hu
      go_wp2_with (at_builtin; refine wpList_append_lies _ rfl (.tmp 10) (.tmp 15) 50 rfl base 5 i0 (.int .u8 0) 1 1 Try.underlying50 hi0 hz0 hz1 hz2 rfl (by omega) _ _ _ rfl (hown'.alloc _) ⟨wr.heap.size, 0, none⟩ 1 1 [.int .u8 ((u : Int) % 128 + 128)] rfl rfl ?c1 ?c2 ?c3 ?c4 ?c5 ?c6 _ rfl ?_)
      case c1 =>
        intro j x hj
        match j, hj with
        | 0, hj => simp at hj; subst hj; simp [Addr.add]
      case c2 => intro x hx; simp at hx; subst hx; rfl
      case c3 => omega
      case c4 => unfold maxLen; omega
      case c5 => omega
      case c6 => simp; omega
      intro g cap w1 hown1 hg1 hat hlt1
      go_wp2
      refine ⟨⟨u / 128, ys ++ [(u % 128 + 128).toUInt8], by go_num, ?_, ?_, owns_snoc (by omega) (by omega) hown1, (hgr.trans (Grew.alloc _ _ _)).trans (Grew.append hg1 (by simpa using hat))⟩, by simp [intOf]; omega⟩
      · unfold U64 at hu ⊢; omega
      · have := hy.out
        rw [Lib.uvarint_big (by omega)] at this
        show _ ++ _ = _
        simpa using this

set_option maxRecDepth 100000 in
set_option maxHeartbeats 400000 in
theorem fromZigzag_any (u : Nat) (hu : U64 u) (w : World) :
    Calls Try.prog 70 #[.int .u64 u] w fun e w' => e = .returned (.int .i64 (unzig u)) ∧ w = w' := by
  have h1 : bits .and .u64 (u : Int) 1 = (u : Int) % 2 := Lib.u64_and1 _ (by omega) (by unfold U64 at hu; omega)
  by_cases hn : (((u : Int) % 2 == 1) = true)
  · go_enter Try.func70, Try.ntmps70
    go_wp2
    go_ret
    exact ⟨ret_int (unzig_odd u hu hn), rfl⟩
  · go_enter Try.func70, Try.ntmps70
    go_wp2
    go_ret
    exact ⟨ret_int (unzig_even u hu hn), rfl⟩
end Go.Proofs.Ytlkeagfmlcbogaa

namespace Go.Proofs.Ytlkeagfmlcbogaa
open Go.RowKit

/-- What takeGroups comes to at the bytes that are left, i groups having been read that spell acc. -/
def grp (i acc : Nat) : List UInt8 → Option (Nat × Nat)
  | [] => none
  | b :: r => if i = 10 then none else if i = 9 ∧ 1 < b.toNat then none else
      if b.toNat < 128 then (if b.toNat = 0 ∧ 0 < i then none else some (acc + b.toNat * 2 ^ (7 * i), i + 1))
      else grp (i + 1) (acc + b.toNat % 128 * 2 ^ (7 * i)) r

def grpRes : Option (Nat × Nat) → Value
  | some (u, k) => .tuple #[.int .u64 u, .int .i64 k]
  | none => .tuple #[.int .u64 0, .int .i64 0]

theorem or_group (k acc b : Nat) (hk : k ≤ 9) (hb : b < 256) (h9 : k = 9 → b ≤ 1) (hacc : acc < 2 ^ (7 * k)) :
    bits .or .u64 (acc : Int) (IntKind.u64.wrap (IntKind.u64.wrap (bits .and .u8 (b : Int) 127) * 2 ^ (7 * k))) = ((acc + b % 128 * 2 ^ (7 * k) : Nat) : Int) := by
  rw [u8_and127 _ (by omega) (by omega), wraps_u64 ((b : Int) % 128) (by omega) (by omega)]
  have e : ((b : Int) % 128) * 2 ^ (7 * k) = ((b % 128 * 2 ^ (7 * k) : Nat) : Int) := by
    rw [Int.natCast_mul, Int.natCast_pow]; rfl
  have hlt : b % 128 * 2 ^ (7 * k) < 2 ^ 64 := by
    by_cases h : k = 9
    · subst h
      have := h9 rfl
      have h2 : b % 128 ≤ 1 := by omega
      calc b % 128 * 2 ^ (7 * 9) ≤ 1 * 2 ^ (7 * 9) := Nat.mul_le_mul_right _ h2
        _ < 2 ^ 64 := by decide
    · have h1 : 2 ^ (7 * k) ≤ 2 ^ 56 := Nat.pow_le_pow_right (by decide) (by omega)
      calc b % 128 * 2 ^ (7 * k) ≤ 127 * 2 ^ 56 := Nat.mul_le_mul (by omega) h1
        _ < 2 ^ 64 := by decide
  rw [e, wraps_u64 _ (by omega) (by omega)]
  have hmod : ((b % 128 * 2 ^ (7 * k) : Nat) : Int) % 2 ^ (7 * k) = 0 := by
    rw [Int.natCast_mul, Int.natCast_pow]; exact Int.mul_emod_left _ _
  have hacc64 : (acc : Int) < 2 ^ 64 := by
    have h1 : 2 ^ (7 * k) ≤ 2 ^ 63 := Nat.pow_le_pow_right (by decide) (by omega)
    have h2 : acc < 2 ^ 63 := Nat.lt_of_lt_of_le hacc h1
    omega
  rw [bits_join_low .u64 64 (by decide) wraps_u64 (7 * k) (acc : Int) _ (by omega) (by have := Int.ofNat_lt.2 hacc; rw [Int.natCast_pow] at this; exact this) hacc64 (by omega) hmod (by omega)]
  rw [Int.natCast_add]

theorem drop_at (s : ByteArray) (k : Nat) (h : k < s.size) : s.data.toList.drop k = s[k] :: s.data.toList.drop (k + 1) := by
  have h' : k < s.data.toList.length := by simpa using h
  rw [List.drop_eq_getElem_cons h']
  rfl

theorem acc_more (k acc b : Nat) (hacc : acc < 2 ^ (7 * k)) : acc + b % 128 * 2 ^ (7 * k) < 2 ^ (7 * (k + 1)) := by
  have e : 2 ^ (7 * (k + 1)) = 128 * 2 ^ (7 * k) := by rw [show 7 * (k + 1) = 7 * k + 7 by omega, Nat.pow_add]; omega
  have h1 : b % 128 * 2 ^ (7 * k) ≤ 127 * 2 ^ (7 * k) := Nat.mul_le_mul_right _ (by omega)
  rw [e]
  omega

theorem grp_bad9 (acc : Nat) (b : UInt8) (r : List UInt8) (h : 1 < b.toNat) : grp 9 acc (b :: r) = none := by simp [grp, h]
theorem grp_zero (k acc : Nat) (b : UInt8) (r : List UInt8) (hk : k < 10) (hb : b.toNat = 0) (h0 : 0 < k) : grp k acc (b :: r) = none := by
  have h10 : ¬ k = 10 := by omega
  simp [grp, hb, h0, h10]
theorem grp_last (k acc : Nat) (b : UInt8) (r : List UInt8) (hk : k < 10) (h9 : k = 9 → b.toNat ≤ 1) (hb : b.toNat < 128) (h0 : ¬ (b.toNat = 0 ∧ 0 < k)) :
    grp k acc (b :: r) = some (acc + b.toNat % 128 * 2 ^ (7 * k), k + 1) := by
  have h10 : ¬ k = 10 := by omega
  have h9' : ¬ (k = 9 ∧ 1 < b.toNat) := fun h => by have := h9 h.1; omega
  rw [grp, if_neg h10, if_neg h9', if_pos hb, if_neg h0, Nat.mod_eq_of_lt hb]
theorem grp_go (k acc : Nat) (b : UInt8) (r : List UInt8) (hk : k < 9) (hb : ¬ b.toNat < 128) :
    grp k acc (b :: r) = grp (k + 1) (acc + b.toNat % 128 * 2 ^ (7 * k)) r := by
  have h10 : ¬ k = 10 := by omega
  have h9' : ¬ (k = 9 ∧ 1 < b.toNat) := fun h => by omega
  rw [grp, if_neg h10, if_neg h9', if_neg hb]
theorem grp_ten (acc : Nat) (l : List UInt8) : grp 10 acc l = none := by cases l <;> simp [grp]
theorem grp_nil (k acc : Nat) : grp k acc [] = none := by simp [grp]

theorem grpRes_some (u k : Nat) (x y : Int) (hx : (u : Int) = x) (hy : (k : Int) = y) : grpRes (some (u, k)) = .tuple #[.int .u64 x, .int .i64 y] := by subst hx; subst hy; rfl
theorem ret_two {k j : IntKind} {a b : Int} {v : Value} (h : v = .tuple #[.int k a, .int j b]) : Ending.returned (.tuple #[.int k a, .int j b]) = .returned v := by rw [h]

set_option maxHeartbeats 400000 in
set_option maxRecDepth 100000 in
theorem takeGroups_any (s : ByteArray) (hs : s.size ≤ maxLen) (w : World) :
    Calls Try.prog 68 #[.string s] w fun e w' => e = .returned (grpRes (grp 0 0 s.data.toList)) ∧ w = w' := by
  unfold maxLen at hs
  by_cases h10 : 10 < s.size
  all_goals
    go_enter Try.func68, Try.ntmps68
    go_wp2
    go_loop [4, 10] (fun u i => ∃ k acc : Nat, k ≤ 10 ∧ k ≤ s.size ∧ i = .int .i64 k ∧ u = .int .u64 acc ∧ Hid (acc < 2 ^ (7 * k)) ∧ Hid (grp 0 0 s.data.toList = grp k acc (s.data.toList.drop k))) (fun _ i => 10 - (intOf i).toNat)
    case atStart => exact ⟨0, 0, by omega, by omega, rfl, rfl, by show _ < _; simp, rfl⟩
    case round =>
      obtain ⟨k, acc, hk, hks, rfl, rfl, hacc, HG⟩ := hrel
      by_cases hlt : k < 10 ∧ k < s.size
      · obtain ⟨hlt, hsz⟩ := hlt
        have hb := s[k].toNat_lt
        have hd := Lib.hid (drop_at s k hsz)
        by_cases c9 : k = 9 ∧ 1 < s[k].toNat
        · obtain ⟨rfl, c9⟩ := c9
          go_wp2
          go_ret2
          refine ⟨ret_two ?_, rfl⟩
          rw [HG.out, hd.out, grp_bad9 _ _ _ c9]; rfl
        have h9 : k = 9 → s[k].toNat ≤ 1 := by omega
        have hv := Lib.hid (or_group k acc s[k].toNat (by omega) hb h9 hacc.out)
        have h9' := Lib.hid h9
        clear h9
        by_cases c2 : s[k].toNat < 128
        · by_cases c3 : s[k].toNat = 0 ∧ 0 < k
          · obtain ⟨c3, c4⟩ := c3
            have c3' : ((s[k].toNat : Int) == 0) = true := by simp; omega
            go_wp2
            all_goals
              go_ret2
              refine ⟨ret_two ?_, rfl⟩
              rw [HG.out, hd.out, grp_zero _ _ _ _ hlt c3 c4]; rfl
          · by_cases c5 : s[k].toNat = 0
            · obtain rfl : k = 0 := by omega
              obtain rfl : acc = 0 := by have := hacc.out; simp at this; exact this
              have hv' : bits .or .u64 0 (IntKind.u64.wrap (IntKind.u64.wrap (bits .and .u8 0 127))) = 0 := by decide
              go_wp2
              go_ret2
              refine ⟨ret_two ?_, rfl⟩
              rw [HG.out, hd.out, grp_last _ _ _ _ hlt h9'.out c2 c3]
              exact grpRes_some _ _ _ _ (by rw [c5]; simp) rfl
            · have c3' : ((s[k].toNat : Int) == 0) = false := by simp; omega
              go_wp2
              all_goals
                go_ret2
                refine ⟨ret_two ?_, rfl⟩
                rw [HG.out, hd.out, grp_last _ _ _ _ hlt h9'.out c2 c3]
                first
                  | exact grpRes_some _ _ _ _ hv.out.symm (by omega)
                  | (obtain rfl : k = 9 := by omega
                     have hv9 := hv.out.symm
                     rw [show (2 : Int) ^ (7 * 9) = 9223372036854775808 by decide] at hv9
                     exact grpRes_some _ _ _ _ hv9 (by omega))
        · have c2' : ¬ (s[k].toNat : Int) < 128 := by omega
          go_wp2
          all_goals
            refine ⟨⟨k + 1, _, by omega, by omega, by go_num, congrArg (Value.int .u64) hv.out, acc_more k acc _ hacc.out, ?_⟩, by simp [intOf]; omega⟩
            show _ = _
            rw [HG.out, hd.out, grp_go _ _ _ _ (by omega) c2]
      · go_wp2
        all_goals
          go_ret2
          refine ⟨ret_two ?_, rfl⟩
          rw [HG.out]
          by_cases hk2 : k = 10
          · subst hk2; rw [grp_ten]; rfl
          · rw [List.drop_eq_nil_of_le (by simp; omega), grp_nil]; rfl
end Go.Proofs.Ytlkeagfmlcbogaa

namespace Go.Proofs.Ytlkeagfmlcbogaa
open Go.RowKit

/-- A Reader at block b: its remaining bytes, whether it has failed. -/
def Rd (w : World) (b : Nat) (l : List UInt8) (f : Bool) : Prop := At w b 92 #[.string ⟨l.toArray⟩, .bool f]

theorem grp_ok : ∀ (l : List UInt8) (i acc u k : Nat), i ≤ 10 → acc < 2 ^ (7 * i) → grp i acc l = some (u, k) → i < k ∧ k ≤ i + l.length ∧ U64 u
  | [], i, acc, u, k, _, _, h => by simp [grp] at h
  | b :: r, i, acc, u, k, hi10, ha, h => by
    rw [grp] at h
    by_cases h10 : i = 10
    · rw [if_pos h10] at h; cases h
    rw [if_neg h10] at h
    by_cases h9 : i = 9 ∧ 1 < b.toNat
    · rw [if_pos h9] at h; cases h
    rw [if_neg h9] at h
    by_cases hb : b.toNat < 128
    · rw [if_pos hb] at h
      by_cases h0 : b.toNat = 0 ∧ 0 < i
      · rw [if_pos h0] at h; cases h
      rw [if_neg h0] at h
      injection h with h
      injection h with h1 h2
      subst h1; subst h2
      refine ⟨by omega, by simp, ?_⟩
      unfold U64
      by_cases hi : i ≤ 8
      · have h3 := acc_more i acc b.toNat ha
        rw [Nat.mod_eq_of_lt hb] at h3
        have h4 : 2 ^ (7 * (i + 1)) ≤ 2 ^ 63 := Nat.pow_le_pow_right (by decide) (by omega)
        have h5 := Nat.lt_of_lt_of_le h3 h4
        omega
      · by_cases hi9 : i = 9
        · subst hi9
          have h6 : b.toNat ≤ 1 := by omega
          have h7 : b.toNat * 2 ^ (7 * 9) ≤ 1 * 2 ^ (7 * 9) := Nat.mul_le_mul_right _ h6
          omega
        · omega
    · rw [if_neg hb] at h
      obtain ⟨h1, h2, h3⟩ := grp_ok r (i + 1) _ u k (by omega) (acc_more i acc _ ha) h
      exact ⟨by omega, by simp; omega, h3⟩

set_option maxRecDepth 100000 in
set_option maxHeartbeats 400000 in
theorem fail_any (b : Nat) (l : List UInt8) (f : Bool) (w : World) (h : Rd w b l f) :
    Calls Try.prog 69 #[.pointer (some ⟨b, 0, none⟩)] w fun e w' => e = .returned (.tuple #[]) ∧ Rd w' b [] true ∧ w.grownBy w' (some b) := by
  have h0 : w.cell? ⟨b, 0, none⟩ = some (.string ⟨l.toArray⟩) := At.cell h 0
  have h1 : w.cell? ⟨b, 1, none⟩ = some (.bool f) := At.cell h 1
  have f0 := At.unfrozen h 0
  have f1 := At.unfrozen h 1
  go_enter Try.func69, Try.ntmps69
  go_wp2
  go_end0
  exact ⟨rfl, (At.put (At.put h 1 _) 0 _), grownBy_tr (grownBy_set _ _ _ _) (grownBy_set _ _ _ _)⟩

theorem number_nil (w : World) :
    Calls Try.prog 52 #[.pointer none] w fun e w' => e = .returned (.tuple #[.int .i64 0, .bool false]) ∧ w = w' := by
  go_enter Try.func52, Try.ntmps52
  go_wp2
  go_ret2
  exact ⟨rfl, rfl⟩

set_option maxRecDepth 100000 in
set_option maxHeartbeats 400000 in
theorem number_none (b : Nat) (l : List UInt8) (f : Bool) (w : World) (h : Rd w b l f) (hl : l.length ≤ maxLen) (hg : Hid (grp 0 0 l = none)) :
    Calls Try.prog 52 #[.pointer (some ⟨b, 0, none⟩)] w fun e w' => e = .returned (.tuple #[.int .i64 0, .bool false]) ∧ Rd w' b [] true ∧ w.grownBy w' (some b) := by
  have h0 : w.cell? ⟨b, 0, none⟩ = some (.string ⟨l.toArray⟩) := At.cell h 0
  go_enter Try.func52, Try.ntmps52
  go_wp2_with fail
  refine (takeGroups_any ⟨l.toArray⟩ (by simpa [ByteArray.size] using hl) _).mono ?_
  rintro e w' ⟨rfl, rfl⟩
  have hr : grpRes (grp 0 0 (ByteArray.mk l.toArray).data.toList) = .tuple #[.int .u64 0, .int .i64 0] := by
    show grpRes (grp 0 0 l) = _
    rw [hg.out]; rfl
  rw [hr]
  clear hr
  go_wp2_with fail
  refine (fail_any b l f _ h).mono ?_
  rintro e w' ⟨rfl, h2, h3⟩
  go_wp2
  go_ret2
  exact ⟨rfl, h2, h3⟩

set_option maxRecDepth 100000 in
set_option maxHeartbeats 400000 in
theorem number_some (b : Nat) (l : List UInt8) (f : Bool) (w : World) (h : Rd w b l f) (hl : l.length ≤ maxLen) (u k : Nat) (hg : Hid (grp 0 0 l = some (u, k))) :
    Calls Try.prog 52 #[.pointer (some ⟨b, 0, none⟩)] w fun e w' => e = .returned (.tuple #[.int .i64 (unzig u), .bool true]) ∧ Rd w' b (l.drop k) f ∧ w.grownBy w' (some b) := by
  have h0 : w.cell? ⟨b, 0, none⟩ = some (.string ⟨l.toArray⟩) := At.cell h 0
  have f0 := At.unfrozen h 0
  obtain ⟨g1, g2, g3⟩ := grp_ok l 0 0 u k (by omega) (by simp) hg.out
  unfold maxLen at hl
  have hk : ((k : Int) == 0) = false := by simp; omega
  have g2' : k ≤ l.length := by omega
  go_enter Try.func52, Try.ntmps52
  go_wp2_with fail
  refine (takeGroups_any ⟨l.toArray⟩ (by unfold maxLen; simpa [ByteArray.size] using hl) _).mono ?_
  rintro e w' ⟨rfl, rfl⟩
  have hr : grpRes (grp 0 0 (ByteArray.mk l.toArray).data.toList) = .tuple #[.int .u64 u, .int .i64 k] := by
    show grpRes (grp 0 0 l) = _
    rw [hg.out]; rfl
  rw [hr]
  clear hr
  go_wp2_with fail
  refine (fromZigzag_any u g3 _).mono ?_
  rintro e w' ⟨rfl, rfl⟩
  go_wp2
  go_ret2
  refine ⟨rfl, ?_, grownBy_set _ _ _ _⟩
  rw [extract_drop]
  exact At.put h 0 _

/-- Reader.Int. -/
theorem rint_none (b : Nat) (l : List UInt8) (f : Bool) (w : World) (h : Rd w b l f) (hl : l.length ≤ maxLen) (hg : Hid (grp 0 0 l = none)) :
    Calls Try.prog 27 #[.pointer (some ⟨b, 0, none⟩)] w fun e w' => e = .returned (.int .i64 0) ∧ Rd w' b [] true ∧ w.grownBy w' (some b) := by
  go_enter Try.func27, Try.ntmps27
  go_wp2_with fail
  refine (number_none b l f _ h hl hg).mono ?_
  rintro e w' ⟨rfl, h2, h3⟩
  go_wp2
  go_ret
  exact ⟨rfl, h2, h3⟩
theorem rint_some (b : Nat) (l : List UInt8) (f : Bool) (w : World) (h : Rd w b l f) (hl : l.length ≤ maxLen) (u k : Nat) (hg : Hid (grp 0 0 l = some (u, k))) :
    Calls Try.prog 27 #[.pointer (some ⟨b, 0, none⟩)] w fun e w' => e = .returned (.int .i64 (unzig u)) ∧ Rd w' b (l.drop k) f ∧ w.grownBy w' (some b) := by
  go_enter Try.func27, Try.ntmps27
  go_wp2_with fail
  refine (number_some b l f _ h hl u k hg).mono ?_
  rintro e w' ⟨rfl, h2, h3⟩
  go_wp2
  go_ret
  exact ⟨rfl, h2, h3⟩
theorem rint_nil (w : World) :
    Calls Try.prog 27 #[.pointer none] w fun e w' => e = .returned (.int .i64 0) ∧ w = w' := by
  go_enter Try.func27, Try.ntmps27
  go_wp2_with fail
  refine (number_nil _).mono ?_
  rintro e w' ⟨rfl, rfl⟩
  go_wp2
  go_ret
  exact ⟨rfl, rfl⟩

/-- Reader.End: OK exactly if it has not failed and nothing is left. -/
def endOf (l : List UInt8) (f : Bool) : Int := if f = true ∨ l ≠ [] then 4 else 0
theorem end_any (b : Nat) (l : List UInt8) (f : Bool) (w : World) (h : Rd w b l f) :
    Calls Try.prog 32 #[.pointer (some ⟨b, 0, none⟩)] w fun e w' => e = .returned (.int .i64 (endOf l f)) ∧ w = w' := by
  have h0 : w.cell? ⟨b, 0, none⟩ = some (.string ⟨l.toArray⟩) := At.cell h 0
  have h1 : w.cell? ⟨b, 1, none⟩ = some (.bool f) := At.cell h 1
  cases f with
  | true =>
    go_enter Try.func32, Try.ntmps32
    go_wp2
    go_ret
    exact ⟨ret_int (by simp [endOf]), rfl⟩
  | false =>
    cases l with
    | nil =>
      go_enter Try.func32, Try.ntmps32
      go_wp2
      go_ret
      exact ⟨ret_int (by simp [endOf]), rfl⟩
    | cons c r =>
      go_enter Try.func32, Try.ntmps32
      go_wp2
      go_ret
      exact ⟨ret_int (by simp [endOf]), rfl⟩
theorem end_nil (w : World) :
    Calls Try.prog 32 #[.pointer none] w fun e w' => e = .returned (.int .i64 2) ∧ w = w' := by
  go_enter Try.func32, Try.ntmps32
  go_wp2
  go_ret
  exact ⟨rfl, rfl⟩
theorem open_any (l : List UInt8) (w : World) :
    Calls Try.prog 26 #[.string ⟨l.toArray⟩] w fun e w' => e = .returned (.pointer (some ⟨w.heap.size, 0, none⟩)) ∧ Rd w' w.heap.size l false ∧ w.grownBy w' none := by
  go_enter Try.func26, Try.ntmps26
  go_wp2
  go_ret
  exact ⟨rfl, At.fresh _ _ _, World.grownBy_alloc _ _ _⟩
end Go.Proofs.Ytlkeagfmlcbogaa

namespace Go.Proofs.Ytlkeagfmlcbogaa
open Go.RowKit

theorem encs_snoc (ns : List Int) (k : Nat) (h : k < ns.length) : encs (ns.take (k + 1)) = encs (ns.take k) ++ enc (ns.getD k 0) := by
  unfold encs
  rw [List.take_succ_eq_append_getElem h, List.map_append, List.flatten_append]
  simp [List.getElem?_eq_getElem h]

theorem enc_len {n : Int} (h : I64 n) : (enc n).length ≤ 10 := uvarint_len (Lib.zigzag_lt h.1 h.2)
theorem encs_len : ∀ (ns : List Int), (∀ m ∈ ns, I64 m) → (encs ns).length ≤ 10 * ns.length
  | [], _ => by simp [encs]
  | n :: r, h => by
    have h1 := encs_len r (fun m hm => h m (by simp [hm]))
    have h2 := enc_len (h n (by simp))
    unfold encs at h1 ⊢
    simp only [List.map_cons, List.flatten_cons, List.length_append, List.length_cons]
    omega

set_option maxRecDepth 100000 in
set_option maxHeartbeats 400000 in
theorem wint_any (b base : Nat) (v : Value) (xs : List UInt8) (A : Option Addr) (n cap : Nat) (ns : List Int) (w : World)
    (hb : At w b 52 #[v]) (ho : Owns w base 5 v xs) (hbase : base ≤ w.heap.size) (hr : Nums w A n ns)
    (hne : 0 < n → ∀ c o, A = some ⟨c, o, none⟩ → c ≠ b ∧ v.ownBlock ≠ some c) (hI : ∀ m ∈ ns, I64 m) (hl : xs.length + 10 * n ≤ 1000000000) :
    Calls Try.prog 16 #[.pointer (some ⟨b, 0, none⟩), .slice A n cap] w fun e w' => e = .returned (.tuple #[]) ∧
      ∃ v', At w' b 52 #[v'] ∧ Owns w' base 5 v' (xs ++ encs ns) ∧ Wgrew w b v w' v' := by
  go_enter Try.func16, Try.ntmps16
  go_wp2
  go_loopw [10] (fun i wr => ∃ (k : Nat) (vr : Value), k ≤ n ∧ i = .int .i64 k ∧ At wr b 52 #[vr] ∧ Owns wr base 5 vr (xs ++ encs (ns.take k)) ∧ Wgrew w b v wr vr) (fun i _ => n - (intOf i).toNat)
  case atStart => exact ⟨0, v, by omega, rfl, hb, by simpa [encs] using ho, Wgrew.refl _ _ _⟩
  case round =>
    obtain ⟨k, vr, hk, rfl, hbr, hor, hgr⟩ := hrel
    by_cases hlt : k < n
    · obtain ⟨c, off, rfl, hc, hcell⟩ := hr.2 (by omega)
      obtain ⟨hne1, hne2⟩ := hne (by omega) c off rfl
      obtain ⟨x, hxe⟩ : ∃ x, ns.getD k 0 = x := ⟨_, rfl⟩
      have hsn := encs_snoc ns k (by rw [hr.1]; exact hlt)
      have hcx := hcell k hlt
      rw [hxe] at hsn hcx
      have hx : wr.cell? ⟨c, off + k, none⟩ = some (.int .i64 x) := (hgr.cell (p := ⟨c, off + k, none⟩) hc hne1 hne2).trans hcx
      have hxI : I64 x := by
        have hkl : k < ns.length := by rw [hr.1]; exact hlt
        apply hI x
        rw [← hxe]
        simp [List.getElem?_eq_getElem hkl]
      have hcb : wr.cell? ⟨b, 0, none⟩ = some vr := At.cell hbr 0
      have hlen : (encs (ns.take k)).length ≤ 10 * k := by
        have := encs_len (ns.take k) (fun m hm => hI m (List.mem_of_mem_take hm))
        have h2 : (ns.take k).length ≤ k := List.length_take_le _ _
        omega
      have HSN := Lib.hid hsn
      have hvne := owns_apart hor hbr (by decide)
      clear hsn hcx hxe hcell
      go_wp2_with fail
      refine (appendNumber_any x hxI base vr _ wr hor (Nat.le_trans hbase hgr.size) (by simp; omega)).mono ?_
      rintro e w1 ⟨g, m, cap1, rfl, ho1, hg1⟩
      have hb1 : At w1 b 52 #[vr] := hbr.grown hg1.grown (fun e => hvne e.symm)
      have hc1 : w1.cell? ⟨b, 0, none⟩ = some vr := At.cell hb1 0
      have hf1 := At.unfrozen hb1 0
      go_wp2
      have hvne1 := owns_apart ho1 hb1 (by decide)
      refine ⟨⟨k + 1, _, by omega, by go_num, At.put hb1 0 _, ?_, hgr.trans (Wgrew.step hg1 b)⟩, by simp [intOf]; omega⟩
      rw [HSN.out, ← List.append_assoc]
      exact ho1.far hvne1 _
    · go_wp2
      go_end0
      refine ⟨rfl, vr, hbr, ?_, hgr⟩
      rw [List.take_of_length_le (by rw [hr.1]; omega)] at hor
      exact hor

theorem wbytes_any (b base : Nat) (v : Value) (xs : List UInt8) (w : World) (hb : At w b 52 #[v]) (ho : Owns w base 5 v xs) :
    Calls Try.prog 21 #[.pointer (some ⟨b, 0, none⟩)] w fun e w' => e = .returned (.string ⟨xs.toArray⟩) ∧ w = w' := by
  have hcb : w.cell? ⟨b, 0, none⟩ = some v := At.cell hb 0
  have hcv := run_bytes_owned (P := Try.prog) 50 9 5 Try.underlying50 Try.underlying5 Try.underlying9 ho
  go_enter Try.func21, Try.ntmps21
  go_wp2
  go_ret
  exact ⟨rfl, rfl⟩
end Go.Proofs.Ytlkeagfmlcbogaa

namespace Go.Proofs.Ytlkeagfmlcbogaa
open Go.RowKit

theorem enc_small {n : Int} (h0 : 0 ≤ n) (h : n < 64) : enc n = [(2 * n).toNat.toUInt8] := by
  unfold enc Lib.zigzag
  rw [if_pos h0, Lib.uvarint_small (by omega)]
theorem encs_alive : encs [0, -1, 64] = [0, 1, 128, 1] := by
  have h1 : enc 0 = [0] := by rw [enc_small (by omega) (by omega)]; rfl
  have h2 : enc (-1) = [1] := by unfold enc; rw [Lib.uvarint_small (by decide)]; rfl
  have h3 : enc 64 = [128, 1] := by unfold enc; rw [Lib.uvarint_big (by decide), Lib.uvarint_small (by decide)]; rfl
  simp [encs, h1, h2, h3]

/-- A row of numbers that was just laid. -/
theorem Nums.new (w : World) (t : TypeId) (ns : List Int) : Nums (w.alloc (.cells (ns.map (Value.int .i64)).toArray t)) (some ⟨w.heap.size, 0, none⟩) ns.length ns := by
  refine ⟨rfl, fun _ => ⟨w.heap.size, 0, rfl, by simp, fun j hj => ?_⟩⟩
  rw [At.cell (At.fresh w t _) (0 + j)]
  simp [hj]

theorem Nums.new1 (w : World) (o : Obj) (t : TypeId) (ns : List Int) : Nums ((w.alloc o).alloc (.cells (ns.map (Value.int .i64)).toArray t)) (some ⟨w.heap.size + 1, 0, none⟩) ns.length ns := by
  have := Nums.new (w.alloc o) t ns
  simpa using this

/-- 'w.Int(x)': the list of one number has just been laid. -/
theorem wint_one (b base : Nat) (v : Value) (xs : List UInt8) (x : Int) (wr : World) (hb : At wr b 52 #[v]) (ho : Owns wr base 5 v xs) (hbase : base ≤ wr.heap.size) (hI : I64 x) (hl : xs.length ≤ 100000000) :
    Calls Try.prog 16 #[.pointer (some ⟨b, 0, none⟩), .slice (some ⟨wr.heap.size, 0, none⟩) 1 1] (wr.alloc (.cells #[.int .i64 x] 3)) fun e w' => e = .returned (.tuple #[]) ∧
      ∃ v', At w' b 52 #[v'] ∧ Owns w' base 5 v' (xs ++ enc x) ∧ Wgrew wr b v w' v' := by
  refine (wint_any b base v xs _ 1 1 [x] _ (hb.alloc _) (World.ownsRow.alloc ho _) (by simp; omega) (Nums.new wr 3 [x]) ?_ (by simpa using hI) (by omega)).mono ?_
  · intro _ c o h
    have hlt := hb.lt
    have hv := ho.lt
    have hc : c = wr.heap.size := by simp at h; exact h.1.symm
    refine ⟨by omega, fun e => ?_⟩
    have := hv c e
    omega
  · rintro e w' ⟨rfl, v', h1, h2, h3⟩
    refine ⟨rfl, v', h1, ?_, h3.alloc_l⟩
    simpa [encs] using h2
/-- 'x := &Writer{}; x.Int(n)'. -/
theorem wint_new (base : Nat) (x : Int) (w : World) (hbase : base ≤ w.heap.size) (hI : I64 x) :
    Calls Try.prog 16 #[.pointer (some ⟨w.heap.size, 0, none⟩), .slice (some ⟨w.heap.size + 1, 0, none⟩) 1 1] ((w.alloc (.cells #[.slice none 0 0] 52)).alloc (.cells #[.int .i64 x] 3)) fun e w' => e = .returned (.tuple #[]) ∧
      ∃ v', At w' w.heap.size 52 #[v'] ∧ Owns w' base 5 v' (enc x) ∧ Wgrew w w.heap.size (.slice none 0 0) w' v' := by
  have h := wint_one w.heap.size base (.slice none 0 0) [] x (w.alloc (.cells #[.slice none 0 0] 52)) (At.fresh _ _ _) (Owns.nil _ _ _) (by simp; omega) hI (by simp)
  rw [show (w.alloc (.cells #[.slice none 0 0] 52)).heap.size = w.heap.size + 1 by simp] at h
  refine h.mono ?_
  rintro e w' ⟨rfl, v', h1, h2, h3⟩
  exact ⟨rfl, v', h1, h2, h3.alloc_l⟩

end Go.Proofs.Ytlkeagfmlcbogaa
