/- Walks of package crc's Check and of the reference of layer 4: Of, Tail. -/
import Derived.Test.YtcjbnpeopalbfaaDoorCrcA
import Derived.Deep.RegionWith
namespace Go.Proofs.YtcjbnpeopalbfaaDoor
open Go.RowKit

theorem ref_odd {c b : Nat} (h : ¬ (c % 2 = b % 2)) : cst (c ^^^ b) = (c / 2 ^^^ crcP) ^^^ b / 2 := by
  unfold cst
  rw [xor_half, xor_par, if_pos (by omega), Nat.xor_assoc, Nat.xor_comm (b / 2), Nat.xor_assoc]
theorem ref_even {c b : Nat} (h : c % 2 = b % 2) : cst (c ^^^ b) = c / 2 ^^^ b / 2 := by
  unfold cst
  rw [xor_half, xor_par, if_neg (by omega)]

set_option maxRecDepth 100000 in
set_option maxHeartbeats 400000 in
theorem crcRef_any (s : List UInt8) (hs : s.length ≤ maxLen) (w : World) :
    Calls Tryd.prog 35 #[.string ⟨s.toArray⟩] w fun e w' => e = .returned (.int .u32 (crcOf s : Nat)) ∧ w = w' := by
  unfold maxLen at hs
  go_enter Tryd.func35, Tryd.ntmps35
  go_wp2_with fail
  go_loopw [3, 4] (fun t i wr => ∃ (v k : Nat), t = .int .u32 v ∧ i = .int .i64 k ∧ k ≤ s.length ∧ v < 4294967296 ∧ Hid (crun v ((s.drop k).map UInt8.toNat) = crun 4294967295 (s.map UInt8.toNat)) ∧ wr = w) (fun _ i _ => (s.length - intOf i).toNat)
  case atStart => exact ⟨4294967295, 0, rfl, rfl, by omega, by omega, rfl, rfl⟩
  case round =>
    obtain ⟨v, k, rfl, rfl, hk, hv, hH, rfl⟩ := hrel
    by_cases hlt : k < s.length
    · have hix := fun (ww : World) => run_index_list (P := Tryd.prog) 9 s k k _ Tryd.underlying9 rfl hlt rfl ww
      have hs1 := crun_at hlt v
      have hb := (s.getD k 0).toNat_lt
      obtain ⟨b, hbe⟩ : ∃ b, (s.getD k 0).toNat = b := ⟨_, rfl⟩
      rw [hbe] at hix hs1 hb
      clear hbe
      have HS1 := Lib.hid hs1
      clear hs1
      go_wp2_with fail
      go_loopw [3, 5, 6] (fun t d i wq => ∃ (u y j : Nat), t = .int .u32 u ∧ d = .int .u8 y ∧ i = .int .i64 j ∧ j ≤ 8 ∧ u < 4294967296 ∧ y < 256 ∧ y / 2 ^ (8 - j) = 0 ∧ Hid (csts (8 - j) (u ^^^ y) = cby v b) ∧ wq = wr) (fun _ _ i _ => (8 - intOf i).toNat)
      case atStart => exact ⟨v, b, 0, rfl, rfl, rfl, by omega, hv, hb, by show b / 256 = 0; omega, rfl, rfl⟩
      case round =>
        obtain ⟨u, y, j, rfl, rfl, rfl, hj, hu, hy, hy0, hI, rfl⟩ := hrel
        by_cases hj8 : j < 8
        · have hst : csts (8 - j) (u ^^^ y) = csts (8 - (j + 1)) (cst (u ^^^ y)) := by rw [show 8 - j = (8 - (j + 1)) + 1 by omega]; rfl
          have hy1 : y / 2 / 2 ^ (8 - (j + 1)) = 0 := by rw [Nat.div_div_eq_div_mul, ← Nat.pow_succ', show (8 - (j + 1)).succ = 8 - j by omega]; exact hy0
          have HST := Lib.hid hst
          have HY := Lib.hid hy1
          clear hst hy1 hy0
          have h2 : bits .xor .u32 ((u / 2 : Nat) : Int) 3988292384 = ((u / 2 ^^^ crcP : Nat) : Int) := u32_xor_nat (u / 2) 3988292384 (by omega) (by omega)
          have h2' : bits .xor .u32 ((u : Int) / 2) 3988292384 = ((u / 2 ^^^ crcP : Nat) : Int) := h2
          have hlt2 : u / 2 ^^^ crcP < 4294967296 := Nat.xor_lt_two_pow (n := 32) (by omega) (by decide)
          by_cases ho : u % 2 = 1
          · have b1 : (((u : Int) % 2) == 1) = true := by simp; omega
            by_cases hp : y % 2 = 1
            · have b2 : (((y : Int) % 2) == 1) = true := by simp; omega
              have he := Lib.hid (ref_even (c := u) (b := y) (by omega))
              go_wp2_with fail
              refine ⟨⟨u / 2, y / 2, j + 1, rfl, rfl, rfl, by omega, by omega, by omega, HY.out, ?_, trivial⟩, by simp [intOf]; omega⟩
              show _ = _
              rw [← he.out, ← HST.out, hI.out]
            · have b2 : (((y : Int) % 2) == 1) = false := by simp; omega
              have he := Lib.hid (ref_odd (c := u) (b := y) (by omega))
              go_wp2_with fail
              refine ⟨⟨u / 2 ^^^ crcP, y / 2, j + 1, rfl, rfl, rfl, by omega, hlt2, by omega, HY.out, ?_, trivial⟩, by simp [intOf]; omega⟩
              show _ = _
              rw [← he.out, ← HST.out, hI.out]
          · have b1 : (((u : Int) % 2) == 1) = false := by simp; omega
            by_cases hp : y % 2 = 1
            · have b2 : (((y : Int) % 2) == 1) = true := by simp; omega
              have he := Lib.hid (ref_odd (c := u) (b := y) (by omega))
              go_wp2_with fail
              refine ⟨⟨u / 2 ^^^ crcP, y / 2, j + 1, rfl, rfl, rfl, by omega, hlt2, by omega, HY.out, ?_, trivial⟩, by simp [intOf]; omega⟩
              show _ = _
              rw [← he.out, ← HST.out, hI.out]
            · have b2 : (((y : Int) % 2) == 1) = false := by simp; omega
              have he := Lib.hid (ref_even (c := u) (b := y) (by omega))
              go_wp2_with fail
              refine ⟨⟨u / 2, y / 2, j + 1, rfl, rfl, rfl, by omega, by omega, by omega, HY.out, ?_, trivial⟩, by simp [intOf]; omega⟩
              show _ = _
              rw [← he.out, ← HST.out, hI.out]
        · obtain rfl : j = 8 := by omega
          have hy1 : y = 0 := by simpa using hy0
          have hI2 : u = cby v b := by have := hI.out; rw [hy1, Nat.xor_zero] at this; exact this
          have HI2 := Lib.hid hI2
          clear hI2 hy0
          subst hy1
          go_wp2_with fail
          refine ⟨⟨u, k + 1, rfl, rfl, by omega, hu, ?_, trivial⟩, by simp [intOf]; omega⟩
          show _ = _
          rw [← hH.out, HS1.out, ← HI2.out]
    · obtain rfl : k = s.length := by omega
      have hH2 : v = crun 4294967295 (s.map UInt8.toNat) := by have := hH.out; rw [List.drop_length] at this; exact this
      have HH2 := Lib.hid hH2
      clear hH2
      go_wp2_with fail
      go_ret
      refine ⟨ret_int ?_, rfl⟩
      unfold crcOf
      rw [← HH2.out]
      omega

theorem tails_more {n c : Nat} {ys l : List UInt8} (h : tails (n + 1) c ++ ys = l) : tails n (c / 256) ++ ((c % 256).toUInt8 :: ys) = l := by
  rw [← h, tails, List.append_assoc]
  rfl

theorem below_join {B : Nat} {w w1 w2 : World} (h : Below B w w1) (k : Below w1.heap.size w1 w2) (hB : B ≤ w1.heap.size) : Below B w w2 :=
  h.trans ⟨k.os, k.tape, k.output, k.size, fun i hi => k.block i (by omega)⟩
theorem Strs.lone (w : World) (ty : TypeId) (t : List UInt8) : Strs (w.alloc (.cells #[.string ⟨t.toArray⟩] ty)) (some ⟨w.heap.size, 0, none⟩) 1 [t] := by
  have hA := At.fresh w ty #[.string ⟨t.toArray⟩]
  refine ⟨rfl, fun _ => ⟨_, 0, rfl, hA.lt, fun j hj => ?_⟩⟩
  obtain rfl : j = 0 := by omega
  exact At.cell hA 0
theorem Strs.pair (w : World) (ty : TypeId) (t u : List UInt8) : Strs (w.alloc (.cells #[.string ⟨t.toArray⟩, .string ⟨u.toArray⟩] ty)) (some ⟨w.heap.size, 0, none⟩) 2 [t, u] := by
  have hA := At.fresh w ty #[.string ⟨t.toArray⟩, .string ⟨u.toArray⟩]
  refine ⟨rfl, fun _ => ⟨_, 0, rfl, hA.lt, fun j hj => ?_⟩⟩
  match j, hj with
  | 0, _ => exact At.cell hA 0
  | 1, _ => exact At.cell hA 1
theorem of_one (t : List UInt8) (ht : t.length ≤ maxLen) (w : World) (ty : TypeId) : Calls Tryd.prog 34 #[.slice (some ⟨w.heap.size, 0, none⟩) 1 1] (w.alloc (.cells #[.string ⟨t.toArray⟩] ty)) fun e w' =>
    e = .returned (.int .u32 (crcOf t : Nat)) ∧ w.alloc (.cells #[.string ⟨t.toArray⟩] ty) = w' := by
  have := crcOf_any (some ⟨w.heap.size, 0, none⟩) 1 1 [t] _ (Strs.lone w ty t) (fun s hs => by simp at hs; subst hs; exact ht) (by unfold maxLen; omega)
  simpa using this
theorem of_two (t u : List UInt8) (ht : t.length ≤ maxLen) (hu : u.length ≤ maxLen) (w : World) (ty : TypeId) : Calls Tryd.prog 34 #[.slice (some ⟨w.heap.size, 0, none⟩) 2 2] (w.alloc (.cells #[.string ⟨t.toArray⟩, .string ⟨u.toArray⟩] ty)) fun e w' =>
    e = .returned (.int .u32 (crcOf (t ++ u) : Nat)) ∧ w.alloc (.cells #[.string ⟨t.toArray⟩, .string ⟨u.toArray⟩] ty) = w' := by
  have := crcOf_any (some ⟨w.heap.size, 0, none⟩) 2 2 [t, u] _ (Strs.pair w ty t u) (fun s hs => by simp at hs; rcases hs with rfl | rfl <;> assumption) (by unfold maxLen; omega)
  simpa using this

/-- What Check says. -/
def checkOf (s : List UInt8) : Option (List UInt8) := if 4 ≤ s.length ∧ s.drop (s.length - 4) = tailOf (crcOf (s.take (s.length - 4))) then some (s.take (s.length - 4)) else none
def checkRes : Option (List UInt8) → Value
  | some b => .tuple #[.string ⟨b.toArray⟩, .bool true]
  | none => .tuple #[.string ⟨#[]⟩, .bool false]

end Go.Proofs.YtcjbnpeopalbfaaDoor
