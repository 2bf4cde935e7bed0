/- The walk of After (package cell). -/
import Derived.Test.YtcjbnpeopalbfaaDoorCellE
namespace Go.Proofs.YtcjbnpeopalbfaaDoor
open Go.RowKit

theorem after_take {s : List UInt8} {k : Nat} (hk : k < s.length) : afterK (s.take (k + 1)) = if (s.getD k 0).toNat < 255 then s.take k ++ [((s.getD k 0).toNat + 1).toUInt8] else afterK (s.take k) := by
  rw [take_more s k hk, after_snoc]

set_option maxRecDepth 100000 in
set_option maxHeartbeats 1600000 in
theorem after_any (s : List UInt8) (hs : s.length ≤ maxLen) (w : World) :
    Calls Tryd.prog 25 #[.string ⟨s.toArray⟩] w fun e w' => e = .returned (.string ⟨(afterK s).toArray⟩) ∧ Below w.heap.size w w' := by
  have hs' : s.length ≤ 9223372036854775807 := by unfold maxLen at hs; simpa using hs
  clear hs
  have hw : IntKind.i64.wrap ((s.length : Int) - 1) = (s.length : Int) - 1 := by rw [IntKind.wrap_i64]; omega
  go_enter Tryd.func25, Tryd.ntmps25
  go_wp2_with fail
  go_loopw [3] (fun i wr => ∃ m : Int, i = .int .i64 m ∧ -1 ≤ m ∧ m < s.length ∧ Hid (afterK s = afterK (s.take (m + 1).toNat)) ∧ wr = w) (fun i _ => (intOf i + 1).toNat)
  case atStart =>
    refine ⟨(s.length : Int) - 1, ?_, by omega, by omega, Lib.hid ?_, rfl⟩
    · first | rfl | simp [hw]
    · rw [show ((s.length : Int) - 1 + 1).toNat = s.length by omega, List.take_length]
  case round =>
    obtain ⟨m, rfl, hm1, hm2, hI, rfl⟩ := hrel
    by_cases h0 : m < 0
    · have hI2 := Lib.hid (show afterK s = [] by rw [hI.out, show (m + 1).toNat = 0 by omega]; rfl)
      have h0' : decide ((0 : Int) ≤ m) = false := by simp; omega
      clear hI
      go_wp2
      go_ret
      exact ⟨ret_s hI2.out.symm, Below.refl _ _⟩
    · obtain ⟨k, rfl⟩ : ∃ k : Nat, m = (k : Int) := ⟨m.toNat, by omega⟩
      have hk : k < s.length := by omega
      have hI2 := hI.out
      rw [show ((k : Int) + 1).toNat = k + 1 by omega, after_take hk] at hI2
      clear hI
      have hix := fun (ww : World) => run_index_list (P := Tryd.prog) 9 s (k : Int) k _ Tryd.underlying9 rfl hk rfl ww
      have hlx := UInt8.toNat_lt (s.getD k 0)
      obtain ⟨x, hx⟩ : ∃ x, (s.getD k 0).toNat = x := ⟨_, rfl⟩
      rw [hx] at hix hI2 hlx
      clear hx
      by_cases hlt : x < 255
      · rw [if_pos hlt] at hI2
        have hlt' : decide ((x : Int) < 255) = true := by simp; omega
        have hw8 : IntKind.u8.wrap ((x : Int) + 1) = ((x + 1 : Nat) : Int) := by rw [IntKind.wrap_u8]; omega
        have hsl : ∀ ww : World, (Instr.slice 9 (.string ⟨s.toArray⟩) none (some (.int .i64 (k : Int))) none).run Tryd.prog ww = .ok (.string ⟨(s.take k).toArray⟩) ww := fun ww => by
          have h := run_slice_string_h (P := Tryd.prog) ww 9 ⟨s.toArray⟩ Tryd.underlying9 .i64 (k : Int) (by omega) (by simp [ByteArray.size]; omega)
          rw [show ((k : Int)).toNat = k by omega, extract_take] at h
          exact h
        have htl : (s.take k).length ≤ k := by rw [List.length_take]; omega
        obtain ⟨z, hz⟩ : ∃ z, s.take k = z := ⟨_, rfl⟩
        rw [hz] at hsl htl hI2
        clear hz
        have HI := Lib.hid hI2
        clear hI2
        have hzl : ¬ 9223372036854775807 < z.length + 1 := by omega
        have hcv : (convert 51 9 (.slice (some ⟨wr.heap.size, 0, none⟩) 1 1)).run Tryd.prog (wr.alloc (.cells #[.int .u8 ((x + 1 : Nat) : Int)] 5)).drew = .ok (.string ⟨[(x + 1).toUInt8].toArray⟩) (wr.alloc (.cells #[.int .u8 ((x + 1 : Nat) : Int)] 5)).drew := conv_at (by omega) (At.fresh wr.drew _ _)
        have hb : Below wr.heap.size wr (wr.alloc (.cells #[.int .u8 ((x + 1 : Nat) : Int)] 5)).drew := ((Below.refl wr.heap.size wr).alloc (Nat.le_refl _) _).drew
        generalize hy : x + 1 = y at *
        go_wp2_with fail
        go_region
        all_goals
          go_wp2_with fail
          go_ret
          refine ⟨?_, hb⟩
          rw [HI.out]
          exact ret_app z [y.toUInt8]
      · rw [if_neg hlt] at hI2
        have hlt' : decide ((x : Int) < 255) = false := by simp; omega
        have hwk : IntKind.i64.wrap ((k : Int) - 1) = (k : Int) - 1 := by rw [IntKind.wrap_i64]; omega
        have HI := Lib.hid hI2
        clear hI2
        go_wp2
        refine ⟨⟨(k : Int) - 1, by go_num, by omega, by omega, Lib.hid ?_, trivial⟩, by simp [intOf]⟩
        rw [HI.out, show ((k : Int) - 1 + 1).toNat = k by omega]
end Go.Proofs.YtcjbnpeopalbfaaDoor
