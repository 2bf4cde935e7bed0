/- strconv's setDigits at the digits of one half. -/
import Derived.Test.YtkaeaiagmihmgaaGreatDoorQFmtA
import Derived.Test.YtkaeaiagmihmgaaGreatDoorQInfo
import Derived.Deep.LoopGhost
import Derived.StillTailTactics
namespace Go.Proofs.YtkaeaiagmihmgaaGreatDoor
open Go.RowKit Go.Sort

def u8v (b : UInt8) : Value := .int .u8 (b.toNat : Int)
theorem zeros_holds {w : World} {g : Nat} {t : TypeId} (h : At w g t (Array.replicate 32 (.int .u8 0))) : Holds (fun (b : UInt8) => Value.int .u8 (b.toNat : Int)) w g 0 (Array.replicate 16 (0 : UInt8)) := by
  intro j hj
  have hj : j < 16 := by simpa using hj
  refine ⟨?_, by simpa using h.unfrozen (0 + j)⟩
  rw [h.cell]
  simp [hj, show j < 32 by omega]
theorem grown_putRow (w : World) (g : Nat) (d : Array UInt8) (n : Nat) : w.grownBy ((putRow (fun (b : UInt8) => Value.int .u8 (b.toNat : Int)) w g 0 d).drewN n) (some g) := by
  have hh : ∀ k, k ≠ g → (putRow (fun (b : UInt8) => Value.int .u8 (b.toNat : Int)) w g 0 d).heap[k]? = w.heap[k]? := by
    intro k hk
    unfold putRow mapBlock
    simp [Array.getElem?_modify, Ne.symm hk]
  refine ⟨rfl, rfl, rfl, ?_, fun k _ hk => ?_⟩
  · show w.heap.size ≤ (putRow _ w g 0 d).heap.size
    unfold putRow mapBlock; simp
  · exact hh k (fun e => hk (by rw [e]))

theorem digits_half {v' : Nat} {dk : Array UInt8} (h : Lib.FmtInv 16 5000000000000000 0 v' dk) (j : Nat) (hj : j < 16) : dk[j]! = if j = 0 then 53 else 48 := by
  rw [h.done j (by omega) hj]
  have : ∀ i : Fin 16, Lib.dg 5000000000000000 (16 - 1 - i.val) = if i.val = 0 then 53 else 48 := by decide
  exact this ⟨j, hj⟩

set_option maxRecDepth 100000 in
set_option maxHeartbeats 1600000 in
theorem setDigits_half (w : World) (g : Nat) (h : At w g 87 (Array.replicate 32 (.int .u8 0))) :
    Calls Tryz.prog 64 #[.slice (some ⟨g, 0, none⟩) 32 32, .int .u64 5000000000000000, .int .i64 (-16), .int .i64 16] w fun e w' => e = .returned (.tuple #[.int .i64 0, .int .i64 1]) ∧ w'.cell? ⟨g, 0, none⟩ = some (.int .u8 53) ∧ w.grownBy w' (some g) := by
  have hc := Tryz.internal_strconv_formatBase10 g 0 32 5000000000000000 (Array.replicate 16 0) w (zeros_holds h) (by simp) (by decide) (by simp)
  have hH := Lib.hid (zeros_holds h)
  have hA := Lib.hid h
  clear h
  rw [Array.size_replicate] at hc
  go_enter Tryz.func64, Tryz.ntmps64
  go_wp2_with fail
  refine hc.mono ?_
  rintro e w1 ⟨rfl, n, v', dk, hw1, hF⟩
  have hcell : ∀ j, j < 16 → w1.cell? ⟨g, j, none⟩ = some (.int .u8 (if j = 0 then 53 else 48)) := by
    intro j hj
    rw [hw1, World.cell?_drewN]
    have := cell?_putRow (fun (b : UInt8) => Value.int .u8 (b.toNat : Int)) w g 0 (Array.replicate 16 0) dk hH.out (by rw [hF.size]; simp) j (by rw [hF.size]; exact hj)
    simp only [Nat.zero_add] at this
    rw [this, digits_half hF j hj]
    split <;> rfl
  have hgr : w.grownBy w1 (some g) := by rw [hw1]; exact grown_putRow w g dk n
  have HC := Lib.hid hcell
  clear hw1 hF hc hcell
  go_wp2
  go_loop [3] (fun t => ∃ k : Nat, 1 ≤ k ∧ k ≤ 16 ∧ t = .int .i64 k) (fun t => (intOf t).toNat)
  case atStart => exact ⟨16, by omega, by omega, rfl⟩
  case round =>
    obtain ⟨k, hk1, hk2, rfl⟩ := hrel
    by_cases h1 : k = 1
    · subst h1
      have hx := HC.out 0 (by omega)
      have hx' : w1.cell? ⟨g, 0, none⟩ = some (.int .u8 53) := hx
      clear hx
      go_wp2
      go_ret2
      exact ⟨rfl, HC.out 0 (by omega), hgr⟩
    · have hx := HC.out (k - 1) (by omega)
      rw [if_neg (by omega)] at hx
      go_wp2
      refine ⟨⟨k - 1, by omega, by omega, by congr 1; omega⟩, by simp [intOf]; omega⟩
end Go.Proofs.YtkaeaiagmihmgaaGreatDoor
