/- Walks of package crc: addByte, Of, Tail, Check. -/
import Derived.Test.YtcjbnpeopalbfaaDoorRows
import Derived.WalkKit
import Derived.WalkSpells
import Derived.WalkLawsBesides
import Derived.Lib.Hide
import Derived.Deep.LoopGhost
import Derived.Deep.QuietTactic
import Derived.Laws.BitsAllLaws
import Derived.Test.YtcjbnpeopalbfaaDoorMem
import Derived.Test.YtcjbnpeopalbfaaDoorInfo
import Derived.Test.YtcjbnpeopalbfaaDoorCrcN
import Derived.Test.YtcjbnpeopalbfaaDoorOpen
namespace Go.Proofs.YtcjbnpeopalbfaaDoor
open Go.RowKit

set_option maxRecDepth 100000 in
set_option maxHeartbeats 400000 in
theorem addByte_any (c b : Nat) (hc : c < 4294967296) (hb : b < 256) (w : World) :
    Calls Tryd.prog 49 #[.int .u32 c, .int .u8 b] w fun e w' => e = .returned (.int .u32 (cby c b : Nat)) ∧ w = w' := by
  have hx : bits .xor .u32 (c : Int) (b : Int) = ((c ^^^ b : Nat) : Int) := u32_xor_nat c b hc (by omega)
  go_enter Tryd.func49, Tryd.ntmps49
  go_wp2_with fail
  go_loopw [0, 10] (fun t i wr => ∃ (v k : Nat), t = .int .u32 v ∧ i = .int .i64 k ∧ k ≤ 8 ∧ v < 4294967296 ∧ Hid (csts (8 - k) v = cby c b) ∧ wr = w) (fun _ i _ => (8 - intOf i).toNat)
  case atStart => exact ⟨c ^^^ b, 0, rfl, rfl, by omega, Nat.xor_lt_two_pow (n := 32) hc (by omega), rfl, rfl⟩
  case round =>
    obtain ⟨v, k, rfl, rfl, hk, hv, hH, rfl⟩ := hrel
    have h1 : bits .and .u32 (v : Int) 1 = ((v % 2 : Nat) : Int) := by
      have := u32_and_nat v 1 hv (by omega)
      rw [Nat.and_one_is_mod] at this
      exact this
    by_cases h8 : k < 8
    · have hs : csts (8 - k) v = csts (8 - (k + 1)) (cst v) := by rw [show 8 - k = (8 - (k + 1)) + 1 by omega]; rfl
      by_cases ho : v % 2 = 1
      · have h2 : bits .xor .u32 ((v / 2 : Nat) : Int) 3988292384 = ((cst v : Nat) : Int) := by
          have := u32_xor_nat (v / 2) 3988292384 (by omega) (by omega)
          unfold cst crcP
          rw [if_pos ho]
          exact this
        go_wp2_with fail
        refine ⟨⟨cst v, k + 1, ?_, rfl, by omega, cst_lt hv, hs ▸ hH.out, trivial⟩, by simp [intOf]; omega⟩
        rw [← h2]
        rfl
      · have hs2 : cst v = v / 2 := by unfold cst; rw [if_neg ho]
        go_wp2_with fail
        refine ⟨⟨cst v, k + 1, ?_, rfl, by omega, cst_lt hv, hs ▸ hH.out, trivial⟩, by simp [intOf]; omega⟩
        rw [hs2]
        rfl
    · obtain rfl : k = 8 := by omega
      go_wp2_with fail
      go_ret
      exact ⟨by rw [← hH.out]; rfl, rfl⟩

/-- A text's checksum. -/
def crcOf (l : List UInt8) : Nat := 4294967295 - crun 4294967295 (l.map UInt8.toNat)
theorem crun_lt : ∀ (l : List UInt8) {c : Nat}, c < 4294967296 → crun c (l.map UInt8.toNat) < 4294967296
  | [], _, h => h
  | x :: l, c, h => crun_lt l (c := cby c x.toNat) (cby_lt h x.toNat_lt)
theorem crcOf_lt (l : List UInt8) : crcOf l < 4294967296 := by unfold crcOf; omega
theorem crun_at {l : List UInt8} {j : Nat} (h : j < l.length) (v : Nat) : crun v ((l.drop j).map UInt8.toNat) = crun (cby v (l.getD j 0).toNat) ((l.drop (j + 1)).map UInt8.toNat) := by
  rw [List.drop_eq_getElem_cons h, List.getD_eq_getElem?_getD, List.getElem?_eq_getElem h]
  rfl
theorem crun_part {ss : List (List UInt8)} {k : Nat} (h : k < ss.length) (v : Nat) :
    crun v ((ss.drop k).flatten.map UInt8.toNat) = crun (crun v ((ss.getD k []).map UInt8.toNat)) ((ss.drop (k + 1)).flatten.map UInt8.toNat) := by
  rw [List.drop_eq_getElem_cons h, List.getD_eq_getElem?_getD, List.getElem?_eq_getElem h, List.flatten_cons, List.map_append, crun_append]
  rfl
theorem u32_not (v : Nat) (h : v < 4294967296) : bits .xor .u32 4294967295 (v : Int) = ((4294967295 - v : Nat) : Int) := by
  have e := u32_xor_nat 4294967295 v (by decide) h
  have e2 : (4294967295 : Nat) ^^^ v = 4294967295 - v := by
    apply Nat.eq_of_testBit_eq
    intro i
    have := Nat.testBit_two_pow_sub_succ (x := v) (n := 32) h i
    rw [show (4294967295 : Nat) - v = 2 ^ 32 - (v + 1) by omega, this, Nat.testBit_xor, show (4294967295 : Nat) = 2 ^ 32 - 1 by decide, Nat.testBit_two_pow_sub_one]
    by_cases hi : i < 32
    · simp [hi]
    · simp [hi]
      exact Nat.testBit_lt_two_pow (Nat.lt_of_lt_of_le h (by exact Nat.pow_le_pow_right (n := 2) (i := 32) (by decide) (by omega)))
  rw [← e2]
  exact e

set_option maxRecDepth 100000 in
set_option maxHeartbeats 400000 in
theorem crcOf_any (A : Option Addr) (n cap : Nat) (ss : List (List UInt8)) (w : World) (hS : Strs w A n ss) (hL : ∀ s ∈ ss, s.length ≤ maxLen) (hn : n ≤ maxLen) :
    Calls Tryd.prog 34 #[.slice A n cap] w fun e w' => e = .returned (.int .u32 (crcOf ss.flatten : Nat)) ∧ w = w' := by
  unfold maxLen at hn
  go_enter Tryd.func34, Tryd.ntmps34
  go_wp2_with fail
  go_loopw [3, 9] (fun t i wr => ∃ (v k : Nat), t = .int .u32 v ∧ i = .int .i64 k ∧ k ≤ n ∧ v < 4294967296 ∧ Hid (crun v ((ss.drop k).flatten.map UInt8.toNat) = crun 4294967295 (ss.flatten.map UInt8.toNat)) ∧ wr = w) (fun _ i _ => (n - intOf i).toNat)
  case atStart => exact ⟨4294967295, 0, rfl, rfl, by omega, by omega, rfl, rfl⟩
  case round =>
    obtain ⟨v, k, rfl, rfl, hk, hv, hH, rfl⟩ := hrel
    by_cases hlt : k < n
    · obtain ⟨c, off, rfl, hc, hcell⟩ := hS.2 (by omega)
      have hkl : k < ss.length := by rw [hS.1]; exact hlt
      have hcx := hcell k hlt
      have hst := crun_part hkl v
      have hxl : (ss.getD k []).length ≤ maxLen := hL _ (by rw [List.getD_eq_getElem?_getD, List.getElem?_eq_getElem hkl]; exact List.getElem_mem hkl)
      obtain ⟨x, hxe⟩ : ∃ x, ss.getD k [] = x := ⟨_, rfl⟩
      rw [hxe] at hcx hst hxl
      unfold maxLen at hxl
      clear hxe hcell
      have HST := Lib.hid hst
      clear hst
      go_wp2_with fail
      go_loopw [3, 15] (fun t i wq => ∃ (u j : Nat), t = .int .u32 u ∧ i = .int .i64 j ∧ j ≤ x.length ∧ u < 4294967296 ∧ Hid (crun u ((x.drop j).map UInt8.toNat) = crun v (x.map UInt8.toNat)) ∧ wq = wr) (fun _ i _ => (x.length - intOf i).toNat)
      case atStart => exact ⟨v, 0, rfl, rfl, by omega, hv, rfl, rfl⟩
      case round =>
        obtain ⟨u, j, rfl, rfl, hj, hu, hI, rfl⟩ := hrel
        by_cases hjl : j < x.length
        · have hix := fun (ww : World) => run_index_list (P := Tryd.prog) 9 x j j _ Tryd.underlying9 rfl hjl rfl ww
          have hs1 := crun_at hjl u
          have hb := (x.getD j 0).toNat_lt
          obtain ⟨b, hbe⟩ : ∃ b, (x.getD j 0).toNat = b := ⟨_, rfl⟩
          rw [hbe] at hix hs1 hb
          clear hbe
          have HS1 := Lib.hid hs1
          clear hs1
          go_wp2_with fail
          refine (addByte_any u b hu hb _).mono ?_
          rintro e w' ⟨rfl, rfl⟩
          go_wp2_with fail
          exact ⟨⟨cby u b, j + 1, rfl, rfl, by omega, cby_lt hu hb, HS1.out ▸ hI.out, trivial⟩, by simp [intOf]; omega⟩
        · obtain rfl : j = x.length := by omega
          have hI2 : u = crun v (x.map UInt8.toNat) := by have := hI.out; rw [List.drop_length] at this; exact this
          go_wp2_with fail
          refine ⟨⟨u, k + 1, rfl, rfl, by omega, hu, ?_, trivial⟩, by simp [intOf]; omega⟩
          show _ = _
          rw [← hH.out, HST.out, ← hI2]
    · obtain rfl : k = n := by omega
      have hH2 : v = crun 4294967295 (ss.flatten.map UInt8.toNat) := by have := hH.out; rw [List.drop_of_length_le (by rw [hS.1]; exact Nat.le_refl _)] at this; exact this
      have HH2 := Lib.hid hH2
      clear hH2
      go_wp2_with fail
      go_ret
      refine ⟨ret_int ?_, rfl⟩
      unfold crcOf
      rw [← HH2.out]
      exact u32_not v hv

/-- The last n bytes of a number, most significant first. -/
def tails : Nat → Nat → List UInt8
  | 0, _ => []
  | n + 1, c => tails n (c / 256) ++ [(c % 256).toUInt8]
def tailOf (c : Nat) : List UInt8 := tails 4 c
theorem tails_length : ∀ (n c : Nat), (tails n c).length = n
  | 0, _ => rfl
  | n + 1, c => by rw [tails, List.length_append, tails_length n]; rfl

/-- 'string([]byte{..})', the bytes just laid. -/
theorem conv_laid {P : Program} (w : World) (src dst e : TypeId) (hs : P.underlying src = some (.slice e)) (he : P.underlying e = some (.int .u8)) (hd : P.underlying dst = some .string) (l : List UInt8) (n : Nat) (hn : l.length = n) (hm : n ≤ 1000000) (cs : Array Value) (hc : cs.toList = Lib.byteCells l) :
    (convert src dst (.slice (some ⟨w.heap.size, 0, none⟩) n n)).run P (w.alloc (.cells cs e)) = .ok (.string ⟨l.toArray⟩) (w.alloc (.cells cs e)) := by
  subst hn
  have hsz : cs.size = l.length := by rw [← Array.length_toList, hc, Lib.byteCells_length]
  refine run_bytes_owned (base := 0) src dst e hs he hd ⟨Lib.byteCells_length l ▸ by rw [Nat.mul_one], .inr ⟨w.heap.size, l.length, cs, rfl, by omega, heap_alloc_new w _, by omega, by unfold maxLen; omega, by rw [hsz, Nat.mul_one], ?_⟩⟩
  rw [hc, Nat.mul_one, List.take_of_length_le (by rw [Lib.byteCells_length]; exact Nat.le_refl _)]

theorem byte_cell (a : Nat) (b : Int) (h : b = ((a % 256 : Nat) : Int)) : Value.int .u8 b = .int .u8 (((a % 256).toUInt8.toNat : Nat) : Int) := by
  subst h
  congr 2
  exact (Lib.toUInt8_toNat (by omega)).symm

end Go.Proofs.YtcjbnpeopalbfaaDoor
