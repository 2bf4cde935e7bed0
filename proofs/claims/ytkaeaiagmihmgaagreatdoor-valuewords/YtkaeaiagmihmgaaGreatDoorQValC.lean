/- What the walks of layer 3 read of the library's variables. -/
/- The walks of Key (package value, and the reference of layer 3). -/
import Derived.Test.YtkaeaiagmihmgaaGreatDoorQInfo
import Derived.Test.YtkaeaiagmihmgaaGreatDoorQFmtA
import Derived.Below
import Derived.Test.YtkaeaiagmihmgaaGreatDoorQValA
import Derived.Test.YtkaeaiagmihmgaaGreatDoorQShelf
namespace Go.Proofs.YtkaeaiagmihmgaaGreatDoor
open Go.RowKit

/-- internal/bytealg's MaxLen holds some number. -/
def Lens (w : World) : Prop := ∃ m : Int, w.cell? ⟨5, 0, none⟩ = some (.int .i64 m)
theorem Lens.below {w w' : World} (h : Lens w) (hb : Below w.heap.size w w') : Lens w' := by
  obtain ⟨m, hm⟩ := h
  exact ⟨m, (hb.cell (p := ⟨5, 0, none⟩) (World.block_lt_of_cell? w _ hm)).trans hm⟩
structure Tb (w : World) : Prop where
  half : HalfTabs w
  lens : Lens w
theorem Tb.below {w w' : World} (h : Tb w) (hb : Below w.heap.size w w') : Tb w' := ⟨h.half.below hb, h.lens.below hb⟩
end Go.Proofs.YtkaeaiagmihmgaaGreatDoor

namespace Go.Proofs.YtkaeaiagmihmgaaGreatDoor
open Go.RowKit

theorem nat_xor_top (u : Nat) (h : u < 18446744073709551616) : u ^^^ 9223372036854775808 = if u < 9223372036854775808 then u + 9223372036854775808 else u - 9223372036854775808 := by
  have e := Nat.xor_mod_two_pow (a := u) (b := 9223372036854775808) (n := 63)
  have d := Nat.xor_div_two_pow (a := u) (b := 9223372036854775808) (n := 63)
  have h1 : u / 2 ^ 63 = 0 ∨ u / 2 ^ 63 = 1 := by omega
  have hb : (9223372036854775808 : Nat) % 2 ^ 63 = 0 := by decide
  have hc : (9223372036854775808 : Nat) / 2 ^ 63 = 1 := by decide
  rw [hb, Nat.xor_zero] at e
  rw [hc] at d
  rcases h1 with h1 | h1
  · rw [h1] at d
    simp at d
    split <;> omega
  · rw [h1] at d
    simp at d
    split <;> omega
theorem xor_top (u : Nat) (h : u < 18446744073709551616) : bits .xor .u64 (u : Int) 9223372036854775808 = ((if u < 9223372036854775808 then u + 9223372036854775808 else u - 9223372036854775808 : Nat) : Int) := by
  rw [u64_xor _ _ (by omega) (by omega) (by omega) (by omega)]
  simp only [Int.toNat_natCast, show (9223372036854775808 : Int).toNat = 9223372036854775808 from rfl]
  rw [nat_xor_top u h]
theorem turned_word {n : Int} (h : I64 n) : bits .xor .u64 (IntKind.u64.wrap n) 9223372036854775808 = (turned n : Int) := by
  unfold I64 at h
  have e0 : IntKind.u64.wrap n = ((n % 18446744073709551616).toNat : Int) := by rw [IntKind.wrap_u64]; omega
  rw [e0]
  obtain ⟨u, hu⟩ : ∃ u, (n % 18446744073709551616).toNat = u := ⟨_, rfl⟩
  rw [hu, xor_top u (by omega)]
  unfold turned
  split <;> omega
theorem turned_sum {n : Int} (h : I64 n) : IntKind.u64.wrap (IntKind.u64.wrap n + 9223372036854775808) = (turned n : Int) := by
  unfold I64 at h
  rw [IntKind.wrap_u64, IntKind.wrap_u64]
  unfold turned
  omega

section
variable (k n : Int) (t : List UInt8)
theorem boxed {w w1 : World} (b1 : Below (w.alloc (.cells #[.int .i64 k, .int .i64 n, .string ⟨t.toArray⟩] 23)).heap.size (w.alloc (.cells #[.int .i64 k, .int .i64 n, .string ⟨t.toArray⟩] 23)) w1) :
    At w1 w.heap.size 23 #[.int .i64 k, .int .i64 n, .string ⟨t.toArray⟩] ∧ Below w.heap.size w w1 := by
  refine ⟨(At.fresh w _ _).below b1 (by simp), below_in (below_box _ _) b1⟩
end

set_option maxRecDepth 100000 in
set_option maxHeartbeats 1600000 in
theorem vkey_any (v : Vl) (hv : v.Ok) (w : World) (ht : Lens w) :
    Calls Tryz.prog 10 #[v.val] w fun e w' => e = .returned (.string ⟨(keyV v).toArray⟩) ∧ Below w.heap.size w w' := by
  cases hg : goodV v with
  | false =>
    have hK := Lib.hid (keyV_bad hg)
    obtain ⟨k, n, t⟩ := v
    have HV := Lib.hid hv
    show Calls _ _ #[.agg #[.int .i64 k, .int .i64 n, .string ⟨t.toArray⟩]] w _
    clear hv
    go_enter Tryz.func10, Tryz.ntmps10
    go_wp2_with fail
    refine (vgood_any ⟨k, n, t⟩ HV.out _).mono ?_
    rintro e w1 ⟨rfl, b1⟩
    rw [hg]
    obtain ⟨hA, hb⟩ := boxed k n t b1
    clear b1
    go_wp2
    go_ret
    exact ⟨ret_s hK.out.symm, hb⟩
  | true =>
    have hcase := (goodV_iff v).1 hg
    have HV := Lib.hid hv
    rcases hcase with ⟨hk, h1, h2⟩ | ⟨hk, h1⟩ | ⟨hk, h1, h2⟩ | ⟨hk, h1, h2⟩
    · have hK := Lib.hid (keyV_null hk hg)
      obtain ⟨k, n, t⟩ := v
      simp only at hk
      subst hk
      show Calls _ _ #[.agg #[.int .i64 0, .int .i64 n, .string ⟨t.toArray⟩]] w _
      clear hv h1 h2
      go_enter Tryz.func10, Tryz.ntmps10
      go_wp2_with fail
      refine (vgood_any ⟨0, n, t⟩ HV.out _).mono ?_
      rintro e w1 ⟨rfl, b1⟩
      rw [hg]
      obtain ⟨hA, hb⟩ := boxed 0 n t b1
      clear b1
      have c0 : w1.cell? ⟨w.heap.size, 0, none⟩ = some (.int .i64 0) := At.cell hA 0
      have hcv := conv_one (P := Tryz.prog) w1 42 9 5 Tryz.underlying42 Tryz.underlying5 Tryz.underlying9 0 (by omega) 0 (by omega)
      have hA2 := hA.alloc (.cells #[.int .u8 0] 5)
      have d0 := At.cell hA2 0
      go_wp2
      go_ret
      exact ⟨ret_s hK.out.symm, hb.alloc hb.size _⟩
    · have hK := Lib.hid (keyV_int hk hg)
      have hx := turned_word hv.num
      have hl := turned_lt hv.num
      have h8 := bigE_len 8 (turned v.num)
      obtain ⟨k, n, t⟩ := v
      simp only at hk
      subst hk
      show Calls _ _ #[.agg #[.int .i64 1, .int .i64 n, .string ⟨t.toArray⟩]] w _
      clear hv h1
      simp only at hx hl h8
      go_enter Tryz.func10, Tryz.ntmps10
      go_wp2_with fail
      refine (vgood_any ⟨1, n, t⟩ HV.out _).mono ?_
      rintro e w1 ⟨rfl, b1⟩
      rw [hg]
      obtain ⟨hA, hb⟩ := boxed 1 n t b1
      clear b1
      have c0 : w1.cell? ⟨w.heap.size, 0, none⟩ = some (.int .i64 1) := At.cell hA 0
      have hcv := conv_one (P := Tryz.prog) w1 42 9 5 Tryz.underlying42 Tryz.underlying5 Tryz.underlying9 1 (by omega) 1 (by omega)
      have hA2 := hA.alloc (.cells #[.int .u8 1] 5)
      have d0 : (w1.alloc (.cells #[.int .u8 1] 5)).cell? ⟨w.heap.size, 0, none⟩ = some (.int .i64 1) := At.cell hA2 0
      have d1 : (w1.alloc (.cells #[.int .u8 1] 5)).cell? ⟨w.heap.size, 1, none⟩ = some (.int .i64 n) := At.cell hA2 1
      go_wp2_with fail
      refine (numberKey_any _ hl _).mono ?_
      rintro e w3 ⟨rfl, b3⟩
      have hb3 := below_in (hb.alloc hb.size _) b3
      generalize bigE 8 (turned n) = ys at *
      go_wp2
      go_ret
      refine ⟨?_, hb3⟩
      rw [hK.out]
      exact congrArg (fun x => Ending.returned (Value.string x)) (ByteArray.mk_append_mk [1] ys)
    · have hK := Lib.hid (keyV_float hk hg)
      have hl := keyI_lt v.num
      have h8 := bigE_len 8 (keyI v.num)
      obtain ⟨k, n, t⟩ := v
      simp only at hk
      subst hk
      show Calls _ _ #[.agg #[.int .i64 2, .int .i64 n, .string ⟨t.toArray⟩]] w _
      clear hv h1 h2
      simp only at hl h8
      go_enter Tryz.func10, Tryz.ntmps10
      go_wp2_with fail
      refine (vgood_any ⟨2, n, t⟩ HV.out _).mono ?_
      rintro e w1 ⟨rfl, b1⟩
      rw [hg]
      obtain ⟨hA, hb⟩ := boxed 2 n t b1
      clear b1
      have c0 : w1.cell? ⟨w.heap.size, 0, none⟩ = some (.int .i64 2) := At.cell hA 0
      have hcv := conv_one (P := Tryz.prog) w1 42 9 5 Tryz.underlying42 Tryz.underlying5 Tryz.underlying9 2 (by omega) 2 (by omega)
      have hA2 := hA.alloc (.cells #[.int .u8 2] 5)
      have d0 : (w1.alloc (.cells #[.int .u8 2] 5)).cell? ⟨w.heap.size, 0, none⟩ = some (.int .i64 2) := At.cell hA2 0
      have d1 : (w1.alloc (.cells #[.int .u8 2] 5)).cell? ⟨w.heap.size, 1, none⟩ = some (.int .i64 n) := At.cell hA2 1
      go_wp2_with (go_at_call 24; refine (key_any _ _).mono ?_; rintro e w' ⟨rfl, rfl⟩)
      refine (numberKey_any _ hl _).mono ?_
      rintro e w3 ⟨rfl, b3⟩
      have hb3 := below_in (hb.alloc hb.size _) b3
      generalize bigE 8 (keyI n) = ys at *
      go_wp2
      go_ret
      refine ⟨?_, hb3⟩
      rw [hK.out]
      exact congrArg (fun x => Ending.returned (Value.string x)) (ByteArray.mk_append_mk [2] ys)
    · have hK := Lib.hid (keyV_text hk hg)
      obtain ⟨m, hm⟩ := ht
      have hml := World.block_lt_of_cell? w _ hm
      have hel := esc_len v.text
      have hR := Lib.hid (replace_esc v.text)
      obtain ⟨k, n, t⟩ := v
      simp only at hk h2 hel hR
      subst hk
      show Calls _ _ #[.agg #[.int .i64 3, .int .i64 n, .string ⟨t.toArray⟩]] w _
      clear hv h1
      go_enter Tryz.func10, Tryz.ntmps10
      go_wp2_with fail
      refine (vgood_any ⟨3, n, t⟩ HV.out _).mono ?_
      rintro e w1 ⟨rfl, b1⟩
      rw [hg]
      obtain ⟨hA, hb⟩ := boxed 3 n t b1
      clear b1
      have c0 : w1.cell? ⟨w.heap.size, 0, none⟩ = some (.int .i64 3) := At.cell hA 0
      have hcv := conv_one (P := Tryz.prog) w1 42 9 5 Tryz.underlying42 Tryz.underlying5 Tryz.underlying9 3 (by omega) 3 (by omega)
      have hA2 := hA.alloc (.cells #[.int .u8 3] 5)
      have d0 : (w1.alloc (.cells #[.int .u8 3] 5)).cell? ⟨w.heap.size, 0, none⟩ = some (.int .i64 3) := At.cell hA2 0
      have d2 : (w1.alloc (.cells #[.int .u8 3] 5)).cell? ⟨w.heap.size, 2, none⟩ = some (.string ⟨t.toArray⟩) := At.cell hA2 2
      have hb2 : Below w.heap.size w (w1.alloc (.cells #[.int .u8 3] 5)) := hb.alloc hb.size _
      have hm2 : (w1.alloc (.cells #[.int .u8 3] 5)).cell? ⟨5, 0, none⟩ = some (.int .i64 m) := (hb2.cell (p := ⟨5, 0, none⟩) hml).trans hm
      have hcnt := Lib.count_le t [0]
      go_wp2_with fail
      refine (Tryz.strings_ReplaceAll ⟨t.toArray⟩ ⟨#[0]⟩ ⟨#[0, 255]⟩ m _ ?c1 hm2 ?c2 ?c3).mono ?_
      case c1 => simp [ByteArray.size]; omega
      case c2 => simp [ByteArray.size]
      case c3 =>
        have e1 : Lib.countB ⟨t.toArray⟩ ⟨#[0]⟩ = Lib.count t [0] := rfl
        rw [e1]
        simp only [ByteArray.size]
        simp
        omega
      rintro e w3 ⟨rfl, b3⟩
      have hb3 := below_in hb2 b3
      have hrep : Lib.replaceAll (ByteArray.mk t.toArray).data.toList (ByteArray.mk #[0]).data.toList (ByteArray.mk #[0, 255]).data.toList = esc t := by
        show Lib.replaceAll t [0] [0, 255] = esc t
        unfold Lib.replaceAll Lib.replace
        rw [if_neg (by decide)]
        exact hR.out
      rw [hrep]
      clear hrep
      generalize esc t = ys at *
      go_wp2
      go_ret
      refine ⟨?_, hb3⟩
      rw [hK.out]
      exact congrArg (fun x => Ending.returned (Value.string x)) ((congrArg (· ++ ByteArray.mk #[0, 0]) (ByteArray.mk_append_mk [3] ys)).trans (ByteArray.mk_append_mk (3 :: ys) [0, 0]))
end Go.Proofs.YtkaeaiagmihmgaaGreatDoor
