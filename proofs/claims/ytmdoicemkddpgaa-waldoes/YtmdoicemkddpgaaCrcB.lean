/- Walks of package crc's Check and of the reference of layer 4: Of, Tail. -/
import Derived.Test.YtmdoicemkddpgaaCrcA
import Derived.Deep.RegionWith
namespace Go.Proofs.Ytmdoicemkddpgaa
open Go.RowKit

theorem ref_odd {c b : Nat} (h : ¬ (c % 2 = b % 2)) : cst (c ^^^ b) = (c / 2 ^^^ crcP) ^^^ b / 2 := by
  unfold cst
  rw [xor_half, xor_par, if_pos (by omega), Nat.xor_assoc, Nat.xor_comm (b / 2), Nat.xor_assoc]
theorem ref_even {c b : Nat} (h : c % 2 = b % 2) : cst (c ^^^ b) = c / 2 ^^^ b / 2 := by
  unfold cst
  rw [xor_half, xor_par, if_neg (by omega)]

set_option maxRecDepth 100000 in
set_option maxHeartbeats 400000 in
theorem refOf_any (s : List UInt8) (hs : s.length ≤ maxLen) (w : World) :
    Calls Try.prog 38 #[.string ⟨s.toArray⟩] w fun e w' => e = .returned (.int .u32 (crcOf s : Nat)) ∧ w = w' := by
  unfold maxLen at hs
  go_enter Try.func38, Try.ntmps38
  go_wp2_with fail
  go_loopw [3, 4] (fun t i wr => ∃ (v k : Nat), t = .int .u32 v ∧ i = .int .i64 k ∧ k ≤ s.length ∧ v < 4294967296 ∧ Hid (crun v ((s.drop k).map UInt8.toNat) = crun 4294967295 (s.map UInt8.toNat)) ∧ wr = w) (fun _ i _ => (s.length - intOf i).toNat)
  case atStart => exact ⟨4294967295, 0, rfl, rfl, by omega, by omega, rfl, rfl⟩
  case round =>
    obtain ⟨v, k, rfl, rfl, hk, hv, hH, rfl⟩ := hrel
    by_cases hlt : k < s.length
    · have hix := fun (ww : World) => run_index_list (P := Try.prog) 9 s k k _ Try.underlying9 rfl hlt rfl ww
      have hs1 := crun_at hlt v
      have hb := (s.getD k 0).toNat_lt
      obtain ⟨b, hbe⟩ : ∃ b, (s.getD k 0).toNat = b := ⟨_, rfl⟩
      rw [hbe] at hix hs1 hb
      clear hbe
      have HS1 := Lib.hid hs1
      clear hs1
      go_wp2_with fail
      go_loopw [3, 5, 6] (fun t d i wq => ∃ (u y j : Nat), t = .int .u32 u ∧ d = .int .u8 y ∧ i = .int .i64 j ∧ j ≤ 8 ∧ u < 4294967296 ∧ y < 256 ∧ y / 2 ^ (8 - j) = 0 ∧ Hid (csts (8 - j) (u ^^^ y) = cby v b) ∧ wq = wr) (fun _ _ i _ => (8 - intOf i).toNat)
      case atStart => exact ⟨v, b, 0, rfl, rfl, rfl, by omega, hv, hb, by show b / 256 = 0; omega, rfl, rfl⟩
      case round =>
        obtain ⟨u, y, j, rfl, rfl, rfl, hj, hu, hy, hy0, hI, rfl⟩ := hrel
        by_cases hj8 : j < 8
        · have hst : csts (8 - j) (u ^^^ y) = csts (8 - (j + 1)) (cst (u ^^^ y)) := by rw [show 8 - j = (8 - (j + 1)) + 1 by omega]; rfl
          have hy1 : y / 2 / 2 ^ (8 - (j + 1)) = 0 := by rw [Nat.div_div_eq_div_mul, ← Nat.pow_succ', show (8 - (j + 1)).succ = 8 - j by omega]; exact hy0
          have HST := Lib.hid hst
          have HY := Lib.hid hy1
          clear hst hy1 hy0
          have h2 : bits .xor .u32 ((u / 2 : Nat) : Int) 3988292384 = ((u / 2 ^^^ crcP : Nat) : Int) := u32_xor_nat (u / 2) 3988292384 (by omega) (by omega)
          have h2' : bits .xor .u32 ((u : Int) / 2) 3988292384 = ((u / 2 ^^^ crcP : Nat) : Int) := h2
          have hlt2 : u / 2 ^^^ crcP < 4294967296 := Nat.xor_lt_two_pow (n := 32) (by omega) (by decide)
          by_cases ho : u % 2 = 1
          · have b1 : (((u : Int) % 2) == 1) = true := by simp; omega
            by_cases hp : y % 2 = 1
            · have b2 : (((y : Int) % 2) == 1) = true := by simp; omega
              have he := Lib.hid (ref_even (c := u) (b := y) (by omega))
              go_wp2_with fail
              refine ⟨⟨u / 2, y / 2, j + 1, rfl, rfl, rfl, by omega, by omega, by omega, HY.out, ?_, trivial⟩, by simp [intOf]; omega⟩
              show _ = _
              rw [← he.out, ← HST.out, hI.out]
            · have b2 : (((y : Int) % 2) == 1) = false := by simp; omega
              have he := Lib.hid (ref_odd (c := u) (b := y) (by omega))
              go_wp2_with fail
              refine ⟨⟨u / 2 ^^^ crcP, y / 2, j + 1, rfl, rfl, rfl, by omega, hlt2, by omega, HY.out, ?_, trivial⟩, by simp [intOf]; omega⟩
              show _ = _
              rw [← he.out, ← HST.out, hI.out]
          · have b1 : (((u : Int) % 2) == 1) = false := by simp; omega
            by_cases hp : y % 2 = 1
            · have b2 : (((y : Int) % 2) == 1) = true := by simp; omega
              have he := Lib.hid (ref_odd (c := u) (b := y) (by omega))
              go_wp2_with fail
              refine ⟨⟨u / 2 ^^^ crcP, y / 2, j + 1, rfl, rfl, rfl, by omega, hlt2, by omega, HY.out, ?_, trivial⟩, by simp [intOf]; omega⟩
              show _ = _
              rw [← he.out, ← HST.out, hI.out]
            · have b2 : (((y : Int) % 2) == 1) = false := by simp; omega
              have he := Lib.hid (ref_even (c := u) (b := y) (by omega))
              go_wp2_with fail
              refine ⟨⟨u / 2, y / 2, j + 1, rfl, rfl, rfl, by omega, by omega, by omega, HY.out, ?_, trivial⟩, by simp [intOf]; omega⟩
              show _ = _
              rw [← he.out, ← HST.out, hI.out]
        · obtain rfl : j = 8 := by omega
          have hy1 : y = 0 := by simpa using hy0
          have hI2 : u = cby v b := by have := hI.out; rw [hy1, Nat.xor_zero] at this; exact this
          have HI2 := Lib.hid hI2
          clear hI2 hy0
          subst hy1
          go_wp2_with fail
          refine ⟨⟨u, k + 1, rfl, rfl, by omega, hu, ?_, trivial⟩, by simp [intOf]; omega⟩
          show _ = _
          rw [← hH.out, HS1.out, ← HI2.out]
    · obtain rfl : k = s.length := by omega
      have hH2 : v = crun 4294967295 (s.map UInt8.toNat) := by have := hH.out; rw [List.drop_length] at this; exact this
      have HH2 := Lib.hid hH2
      clear hH2
      go_wp2_with fail
      go_ret
      refine ⟨ret_int ?_, rfl⟩
      unfold crcOf
      rw [← HH2.out]
      omega

theorem tails_more {n c : Nat} {ys l : List UInt8} (h : tails (n + 1) c ++ ys = l) : tails n (c / 256) ++ ((c % 256).toUInt8 :: ys) = l := by
  rw [← h, tails, List.append_assoc]
  rfl

set_option maxRecDepth 100000 in
set_option maxHeartbeats 400000 in
theorem refTail_any (c : Nat) (hc : c < 4294967296) (w : World) :
    Calls Try.prog 37 #[.int .u32 c] w fun e w' => e = .returned (.string ⟨(tailOf c).toArray⟩) ∧ Below w.heap.size w w' := by
  go_enter Try.func37, Try.ntmps37
  go_wp2_with fail
  go_loopw [0, 3, 4] (fun t d i wq => ∃ (u j : Nat) (ys : List UInt8), t = .int .u32 u ∧ d = .string ⟨ys.toArray⟩ ∧ i = .int .i64 j ∧ j ≤ 4 ∧ u < 4294967296 ∧ ys.length ≤ 4 ∧ Hid (ys.length = j) ∧ Hid (tails (4 - j) u ++ ys = tailOf c) ∧ Below w.heap.size w wq) (fun _ _ i _ => (4 - intOf i).toNat)
  case atStart => exact ⟨c, 0, [], rfl, rfl, rfl, by omega, hc, by simp, rfl, by show _ = _; simp [tailOf], Below.refl _ _⟩
  case round =>
    obtain ⟨u, j, ys, rfl, rfl, rfl, hj, hu, hyl, hyj, hI, hbl⟩ := hrel
    by_cases hj4 : j < 4
    · have hst : tails (4 - (j + 1)) (u / 256) ++ ((u % 256).toUInt8 :: ys) = tailOf c := tails_more (n := 4 - (j + 1)) (by rw [show 4 - (j + 1) + 1 = 4 - j by omega]; exact hI.out)
      have HST := Lib.hid hst
      clear hst
      have hcv := conv_one (P := Try.prog) wr 48 9 5 Try.underlying48 Try.underlying5 Try.underlying9 (u % 256) (by omega) ((u : Int) % 256) (by omega)
      obtain ⟨d, hd⟩ : ∃ d, (u % 256).toUInt8 = d := ⟨_, rfl⟩
      rw [hd] at hcv HST
      clear hd
      go_wp2_with fail
      refine ⟨⟨u / 256, j + 1, d :: ys, rfl, ?_, rfl, by omega, by omega, by have := hyj.out; simp; omega, by show _ = _; simp [hyj.out], HST.out, hbl.alloc hbl.size _⟩, by simp [intOf]; omega⟩
      exact congrArg Value.string (ByteArray.mk_append_mk [d] ys)
    · obtain rfl : j = 4 := by omega
      have hI2 : ys = tailOf c := hI.out
      have HI2 := Lib.hid hI2
      clear hI2
      go_wp2_with fail
      go_ret
      exact ⟨by rw [← HI2.out]; rfl, hbl⟩

theorem below_join {B : Nat} {w w1 w2 : World} (h : Below B w w1) (k : Below w1.heap.size w1 w2) (hB : B ≤ w1.heap.size) : Below B w w2 :=
  h.trans ⟨k.os, k.tape, k.output, k.size, fun i hi => k.block i (by omega)⟩
theorem Strs.lone (w : World) (ty : TypeId) (t : List UInt8) : Strs (w.alloc (.cells #[.string ⟨t.toArray⟩] ty)) (some ⟨w.heap.size, 0, none⟩) 1 [t] := by
  have hA := At.fresh w ty #[.string ⟨t.toArray⟩]
  refine ⟨rfl, fun _ => ⟨_, 0, rfl, hA.lt, fun j hj => ?_⟩⟩
  obtain rfl : j = 0 := by omega
  exact At.cell hA 0
theorem Strs.pair (w : World) (ty : TypeId) (t u : List UInt8) : Strs (w.alloc (.cells #[.string ⟨t.toArray⟩, .string ⟨u.toArray⟩] ty)) (some ⟨w.heap.size, 0, none⟩) 2 [t, u] := by
  have hA := At.fresh w ty #[.string ⟨t.toArray⟩, .string ⟨u.toArray⟩]
  refine ⟨rfl, fun _ => ⟨_, 0, rfl, hA.lt, fun j hj => ?_⟩⟩
  match j, hj with
  | 0, _ => exact At.cell hA 0
  | 1, _ => exact At.cell hA 1
theorem of_one (t : List UInt8) (ht : t.length ≤ maxLen) (w : World) (ty : TypeId) : Calls Try.prog 36 #[.slice (some ⟨w.heap.size, 0, none⟩) 1 1] (w.alloc (.cells #[.string ⟨t.toArray⟩] ty)) fun e w' =>
    e = .returned (.int .u32 (crcOf t : Nat)) ∧ w.alloc (.cells #[.string ⟨t.toArray⟩] ty) = w' := by
  have := of_any (some ⟨w.heap.size, 0, none⟩) 1 1 [t] _ (Strs.lone w ty t) (fun s hs => by simp at hs; subst hs; exact ht) (by unfold maxLen; omega)
  simpa using this
theorem of_two (t u : List UInt8) (ht : t.length ≤ maxLen) (hu : u.length ≤ maxLen) (w : World) (ty : TypeId) : Calls Try.prog 36 #[.slice (some ⟨w.heap.size, 0, none⟩) 2 2] (w.alloc (.cells #[.string ⟨t.toArray⟩, .string ⟨u.toArray⟩] ty)) fun e w' =>
    e = .returned (.int .u32 (crcOf (t ++ u) : Nat)) ∧ w.alloc (.cells #[.string ⟨t.toArray⟩, .string ⟨u.toArray⟩] ty) = w' := by
  have := of_any (some ⟨w.heap.size, 0, none⟩) 2 2 [t, u] _ (Strs.pair w ty t u) (fun s hs => by simp at hs; rcases hs with rfl | rfl <;> assumption) (by unfold maxLen; omega)
  simpa using this

/-- What Check says. -/
def checkOf (s : List UInt8) : Option (List UInt8) := if 4 ≤ s.length ∧ s.drop (s.length - 4) = tailOf (crcOf (s.take (s.length - 4))) then some (s.take (s.length - 4)) else none
def checkRes : Option (List UInt8) → Value
  | some b => .tuple #[.string ⟨b.toArray⟩, .bool true]
  | none => .tuple #[.string ⟨#[]⟩, .bool false]

set_option maxRecDepth 100000 in
set_option maxHeartbeats 400000 in
theorem check_any (s : List UInt8) (hs : s.length ≤ maxLen) (w : World) :
    Calls Try.prog 39 #[.string ⟨s.toArray⟩] w fun e w' => e = .returned (checkRes (checkOf s)) ∧ Below w.heap.size w w' := by
  unfold maxLen at hs
  by_cases h4 : 4 ≤ s.length
  · obtain ⟨b, hb⟩ : ∃ b, s.take (s.length - 4) = b := ⟨_, rfl⟩
    obtain ⟨t, ht⟩ : ∃ t, s.drop (s.length - 4) = t := ⟨_, rfl⟩
    have hbl : b.length ≤ maxLen := by rw [← hb]; unfold maxLen; simp; omega
    have e1 : (ByteArray.mk s.toArray).extract 0 (s.length - 4) = ⟨b.toArray⟩ := by rw [extract_take, hb]
    have e2 : (ByteArray.mk s.toArray).extract (s.length - 4) s.length = ⟨t.toArray⟩ := by rw [extract_drop, ht]
    have hC : checkOf s = if t = tailOf (crcOf b) then some b else none := by unfold checkOf; rw [hb, ht]; simp [h4]
    rw [hC]
    have hcl := crcOf_lt b
    obtain ⟨c, hc⟩ : ∃ c, crcOf b = c := ⟨_, rfl⟩
    rw [hc] at hcl ⊢
    have HC := Lib.hid hc
    clear hC hb ht hc
    obtain ⟨l, hl⟩ : ∃ l, tailOf c = l := ⟨_, rfl⟩
    rw [hl]
    have HL := Lib.hid hl
    clear hl
    have h5 : (4 : Int) ≤ (s.length : Int) := by omega
    have e3 : (ByteArray.mk s.toArray).extract ((s.length : Int) - 4).toNat s.length = ⟨t.toArray⟩ := by rw [show ((s.length : Int) - 4).toNat = s.length - 4 by omega]; exact e2
    have h6 : (s.length : Int) - 4 ≤ (s.length : Int) := by omega
    have hbel : ∀ {w2 : World}, Below (w.alloc (Obj.cells #[Value.string ⟨b.toArray⟩] 9)).drew.heap.size (w.alloc (Obj.cells #[Value.string ⟨b.toArray⟩] 9)).drew w2 → Below w.heap.size w w2 := fun {w2} h => by
      exact below_join ((Below.refl w.heap.size w).alloc (Nat.le_refl _) (Obj.cells #[Value.string ⟨b.toArray⟩] 9)).drew h (by show _ ≤ (w.alloc _).heap.size; simp)
    by_cases hq : t = l
    · have hq' : (t == l) = true := by simp [hq]
      go_enter Try.func39, Try.ntmps39
      go_wp2_with fail
      go_region_with (first
        | (go_at_call 36; refine (of_one b hbl w.drew 9).mono ?_; rintro e w1 ⟨rfl, rfl⟩; rw [HC.out])
        | (go_at_call 35; refine (tail_any c hcl _).mono ?_; rintro e w2 ⟨rfl, hb2⟩; rw [HL.out]))
      go_wp2_with fail
      go_ret2
      refine ⟨?_, hbel hb2⟩
      rfl
    · have hq' : (t == l) = false := by simp [hq]
      go_enter Try.func39, Try.ntmps39
      go_wp2_with fail
      go_region_with (first
        | (go_at_call 36; refine (of_one b hbl w.drew 9).mono ?_; rintro e w1 ⟨rfl, rfl⟩; rw [HC.out])
        | (go_at_call 35; refine (tail_any c hcl _).mono ?_; rintro e w2 ⟨rfl, hb2⟩; rw [HL.out]))
      go_wp2_with fail
      go_ret2
      refine ⟨?_, hbel hb2⟩
      rfl
  · go_enter Try.func39, Try.ntmps39
    go_wp2_with fail
    go_ret2
    refine ⟨?_, Below.refl _ _⟩
    unfold checkOf
    rw [if_neg (fun h => h4 h.1)]
    rfl
end Go.Proofs.Ytmdoicemkddpgaa
