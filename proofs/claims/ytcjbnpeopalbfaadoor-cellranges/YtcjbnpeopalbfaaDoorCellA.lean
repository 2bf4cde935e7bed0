/- The walks of the keys' functions (package cell). -/
import Derived.Test.YtcjbnpeopalbfaaDoorCellM
import Derived.Test.YtcjbnpeopalbfaaDoorValE
import Derived.Deep.RegionHeld3
import Derived.Deep.RegionWith
namespace Go.Proofs.YtcjbnpeopalbfaaDoor
open Go.RowKit

theorem ok_name {a : List UInt8} (h : a.length ≤ maxLen) : (Vl.mk 3 0 a).Ok := ⟨by show I64 3; unfold I64; decide, i64_nought, h⟩
theorem join_flat (ss : List (List UInt8)) : Lib.join (ss.map fun s => s) [] = ss.flatten := by
  rw [List.map_id']
  cases ss with
  | nil => rfl
  | cons x r =>
    rw [Lib.join_cons]
    simp [Lib.joinTail]

theorem conv_at {W : World} {g k : Nat} (hk : k < 256) (h : At W g 5 #[.int .u8 k]) :
    (convert 51 9 (.slice (some ⟨g, 0, none⟩) 1 1)).run Tryd.prog W = .ok (.string ⟨[k.toUInt8].toArray⟩) W := by
  refine run_bytes_owned (base := 0) 51 9 5 Tryd.underlying51 Tryd.underlying5 Tryd.underlying9 ⟨rfl, .inr ⟨g, 1, #[.int .u8 k], rfl, by omega, h, by simp, by unfold maxLen; omega, rfl, ?_⟩⟩
  simp only [Lib.byteCells, List.map_cons, List.map_nil, Lib.toUInt8_toNat hk]
  rfl

set_option maxRecDepth 100000 in
set_option maxHeartbeats 800000 in
theorem join_any (k : Nat) (hk : k < 256) (bk : Nat) (ss : List (List UInt8)) (w : World) (hbk : bk < w.heap.size) (hcells : ∀ (j : Nat) s, ss[j]? = some s → w.cell? ⟨bk, j, none⟩ = some (.string ⟨s.toArray⟩)) (hn : ss.length ≤ 100) (hl : ss.flatten.length ≤ 1000000) :
    Calls Tryd.prog 30 #[.int .u8 k, .slice (some ⟨bk, 0, none⟩) ss.length ss.length] w fun e w' => e = .returned (.string ⟨(k.toUInt8 :: ss.flatten).toArray⟩) ∧ Below w.heap.size w w' := by
  have hJ : ∀ W : World, Below w.heap.size w W → Calls Tryd.prog 43 #[.slice (some ⟨bk, 0, none⟩) ss.length ss.length, .string ⟨#[]⟩] W fun e w' => e = .returned (.string ⟨ss.flatten.toArray⟩) ∧ Below W.heap.size W w' := by
    intro W hW
    have hlen : Lib.join ((ss.map fun s => ByteArray.mk s.toArray).map (·.data.toList)) [] = ss.flatten := by
      rw [← join_flat ss, List.map_map]; rfl
    have := Tryd.strings_Join bk 0 ss.length (ss.map fun s => ByteArray.mk s.toArray) ⟨#[]⟩ W (by
      intro j x hx
      rw [List.getElem?_map] at hx
      obtain ⟨s, h1, rfl⟩ := Option.map_eq_some_iff.1 hx
      have := hcells j s h1
      rw [Nat.zero_add]
      exact (hW.cell (p := ⟨bk, j, none⟩) hbk).trans this) (by have := hW.size; omega) (by simp; omega) (by simp) (by
      rw [show (ByteArray.mk #[]).data.toList = [] from rfl, hlen]; omega)
    rw [show (ByteArray.mk #[]).data.toList = [] from rfl, hlen, List.length_map] at this
    exact this
  have HJ := Lib.hid hJ
  clear hJ hcells
  obtain ⟨z, hz⟩ : ∃ z, ss.flatten = z := ⟨_, rfl⟩
  rw [hz] at hl HJ ⊢
  clear hz
  generalize ss.length = n at *
  have q1 : ¬ 9223372036854775807 < [k.toUInt8].length + z.length := by simp; omega
  have hcvW : (convert 51 9 (.slice (some ⟨w.heap.size, 0, none⟩) 1 1)).run Tryd.prog (w.alloc (.cells #[.int .u8 k] 5)).drew = .ok (.string ⟨[k.toUInt8].toArray⟩) (w.alloc (.cells #[.int .u8 k] 5)).drew := conv_at hk ((At.fresh w.drew _ _))
  have b0 : Below w.heap.size w (w.alloc (.cells #[.int .u8 k] 5)).drew := ((Below.refl w.heap.size w).alloc (Nat.le_refl _) _).drew
  have hcv2 := fun w2 (c2 : Below (w.alloc (.cells #[.int .u8 k] 5)).drew.heap.size (w.alloc (.cells #[.int .u8 k] 5)).drew w2) => conv_at hk ((At.fresh w.drew 5 #[.int .u8 k]).below c2 (by simp))
  have bd : Below w.heap.size w w.drew := (Below.refl _ _).drew
  have HC := Lib.hid hcv2
  clear hcv2
  go_enter Tryd.func30, Tryd.ntmps30
  go_wp2_with fail
  go_region_with
    (first
      | (go_at_call 43; refine (HJ.out (w.alloc (.cells #[.int .u8 k] 5)).drew b0).mono ?_; rintro e w2 ⟨rfl, c2⟩; have b2 := below_in b0 c2; have hcv2 : (convert 51 9 (.slice (some ⟨w.heap.size, 0, none⟩) 1 1)).run Tryd.prog w2 = .ok (.string ⟨[k.toUInt8].toArray⟩) w2 := HC.out w2 c2; clear c2)
      | (go_at_call 43; refine (HJ.out w.drew bd).mono ?_; rintro e w2 ⟨rfl, c2⟩; have b3 := below_in bd c2; have b2 := b3.alloc b3.size (.cells #[.int .u8 k] 5); have hcv2 := conv_at hk (At.fresh w2 5 #[.int .u8 k]); clear c2 b3))
  all_goals
    go_wp2_with fail
    go_ret
    exact ⟨congrArg (fun x => Ending.returned (Value.string x)) (ByteArray.mk_append_mk [k.toUInt8] z), b2⟩
end Go.Proofs.YtcjbnpeopalbfaaDoor
