/- The walks of the reference's Plain, Signed, Int, Str, Bool (layer 1). -/
import Derived.Test.YtlkeagfmlcbogaaQPKa
namespace Go.Proofs.Ytlkeagfmlcbogaa
open Go.RowKit

set_option maxRecDepth 100000 in
set_option maxHeartbeats 400000 in
theorem refPlain_any (n : Int) (hI : I64 n) (w : World) :
    Calls Try.prog 50 #[.int .i64 n] w fun e w' => e = .returned (.int .u64 (Lib.zigzag n)) ∧ w = w' := by
  by_cases hn : 0 ≤ n
  · go_enter Try.func50, Try.ntmps50
    go_wp2
    go_ret
    refine ⟨ret_int ?_, rfl⟩
    rw [Lib.zigzag_nonneg hn, IntKind.wrap_u64, IntKind.wrap_u64]
    have := hI.2; omega
  · have hn1 : n < 0 := by omega
    have h1 := hI.1
    go_enter Try.func50, Try.ntmps50
    go_wp2
    go_ret
    refine ⟨ret_int ?_, rfl⟩
    unfold Lib.zigzag
    rw [if_neg (by omega)]
    omega

theorem half_w (u : Nat) (h : U64 u) : IntKind.u64.wrap ((u : Int) / 2) = (u : Int) / 2 := by
  unfold U64 at h
  rw [IntKind.wrap_u64]; omega

set_option maxHeartbeats 400000 in
set_option maxRecDepth 100000 in
theorem refInt_any (n : Int) (hI : I64 n) (w : World) :
    Calls Try.prog 22 #[.int .i64 n] w fun e w' => e = .returned (.string ⟨(enc n).toArray⟩) ∧ Below w.heap.size w w' := by
  have hzl : (Lib.uvarint (Lib.zigzag n)).length ≤ 10 := uvarint_len (Lib.zigzag_lt hI.1 hI.2)
  go_enter Try.func22, Try.ntmps22
  go_wp2_with fail
  refine (refPlain_any n hI _).mono ?_
  rintro e w' ⟨rfl, rfl⟩
  go_wp2_with fail
  go_loopw [3, 4] (fun t s wr => ∃ (u : Nat) (ys : List UInt8), t = .int .u64 u ∧ U64 u ∧ s = .string ⟨ys.toArray⟩ ∧ ys.length ≤ 10 ∧ Hid (ys ++ Lib.uvarint u = Lib.uvarint (Lib.zigzag n)) ∧ Below w.heap.size w wr) (fun t _ _ => (intOf t).toNat)
  case atStart => exact ⟨_, [], rfl, Lib.zigzag_lt hI.1 hI.2, rfl, by simp, rfl, Below.refl _ _⟩
  case round =>
    obtain ⟨u, ys, rfl, hu, rfl, hyl, hy, hbl⟩ := hrel
    by_cases hlt : u < 128
    · obtain ⟨c, hc⟩ : ∃ c, u.toUInt8 = c := ⟨_, rfl⟩
      have hcv := conv_one (P := Try.prog) wr 50 9 5 Try.underlying50 Try.underlying5 Try.underlying9 u (by omega) u rfl
      rw [hc] at hcv
      have HC := Lib.hid hc
      clear hc
      go_wp2_with fail
      go_ret
      refine ⟨?_, hbl.alloc hbl.size _⟩
      have e : enc n = ys ++ [c] := by unfold enc; rw [← hy.out, Lib.uvarint_small (by omega), HC.out]
      rw [e]
      exact congrArg (fun x => Ending.returned (Value.string x)) (ByteArray.mk_append_mk ys [c])
    · obtain ⟨c, hc⟩ : ∃ c, (u % 128 + 128).toUInt8 = c := ⟨_, rfl⟩
      have hcv := conv_one (P := Try.prog) wr 50 9 5 Try.underlying50 Try.underlying5 Try.underlying9 (u % 128 + 128) (by omega) (128 + (u : Int) % 128) (by omega)
      rw [hc] at hcv
      have HC := Lib.hid hc
      clear hc
      go_wp2_with fail
      have hw : IntKind.u64.wrap ((u : Int) / 128) = ((u / 128 : Nat) : Int) := by unfold U64 at hu; rw [IntKind.wrap_u64]; omega
      have hy2 : (ys ++ [c]) ++ Lib.uvarint (u / 128) = Lib.uvarint (Lib.zigzag n) := by
        have := hy.out
        rw [Lib.uvarint_big (by omega), HC.out] at this
        rw [← this]; simp
      have hp := Lib.uvarint_pos (u / 128)
      have hl2 := congrArg List.length hy2
      rw [List.length_append] at hl2
      rw [hw]
      refine ⟨⟨u / 128, ys ++ [c], rfl, ?_, ?_, by omega, hy2, hbl.alloc hbl.size _⟩, by simp [intOf]; omega⟩
      · unfold U64 at hu ⊢; omega
      · exact congrArg Value.string (ByteArray.mk_append_mk ys [c])

set_option maxRecDepth 100000 in
set_option maxHeartbeats 400000 in
theorem refStr_any (s : List UInt8) (hs : s.length ≤ 1000000000) (w : World) :
    Calls Try.prog 23 #[.string ⟨s.toArray⟩] w fun e w' => e = .returned (.string ⟨(encS s).toArray⟩) ∧ Below w.heap.size w w' := by
  have hI : I64 (s.length : Int) := by unfold I64; omega
  have hl := enc_len hI
  go_enter Try.func23, Try.ntmps23
  go_wp2_with fail
  refine (refInt_any s.length hI _).mono ?_
  rintro e w1 ⟨rfl, hb⟩
  go_wp2_with fail
  go_ret
  refine ⟨?_, hb⟩
  exact congrArg (fun x => Ending.returned (Value.string x)) (ByteArray.mk_append_mk _ _)

set_option maxRecDepth 100000 in
set_option maxHeartbeats 400000 in
theorem refBool_any (b : Bool) (w : World) :
    Calls Try.prog 24 #[.bool b] w fun e w' => e = .returned (.string ⟨(encB b).toArray⟩) ∧ Below w.heap.size w w' := by
  cases b with
  | true =>
    go_enter Try.func24, Try.ntmps24
    go_wp2_with fail
    refine (refInt_any 1 (by unfold I64; omega) _).mono ?_
    rintro e w1 ⟨rfl, hb⟩
    go_wp2_with fail
    go_ret
    exact ⟨rfl, hb⟩
  | false =>
    go_enter Try.func24, Try.ntmps24
    go_wp2_with fail
    refine (refInt_any 0 (by unfold I64; omega) _).mono ?_
    rintro e w1 ⟨rfl, hb⟩
    go_wp2_with fail
    go_ret
    exact ⟨rfl, hb⟩
end Go.Proofs.Ytlkeagfmlcbogaa
