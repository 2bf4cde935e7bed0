/- The disk of layer 5 as plain mathematics: bytes, how many are safe, the capacity, boots, the power. No program is named here. -/
import Derived.Test.YtmdoicemkddpgaaMem
namespace Go.Proofs.Ytmdoicemkddpgaa
open Go.RowKit

structure Dk where
  xs : List UInt8
  safe : Nat
  size : Nat
  boots : Nat
  down : Bool
/-- What holds of every disk. -/
structure Dk.Ok (D : Dk) : Prop where
  safe : D.safe ≤ D.xs.length
  full : D.xs.length ≤ D.size
  size : D.size ≤ 262144

def dkNew (size : Int) : Dk := ⟨[], 0, min size.toNat 262144, 1, false⟩
def Dk.append (D : Dk) (s : List UInt8) : Nat × Dk := if D.down then (7, D) else if D.size < D.xs.length + s.length then (6, D) else (0, { D with xs := D.xs ++ s })
def Dk.sync (D : Dk) : Nat × Dk := if D.down then (7, D) else (0, { D with safe := D.xs.length })
def Dk.trim (D : Dk) (n : Int) : Nat × Dk := if D.down then (7, D) else if n < 0 ∨ (D.xs.length : Int) < n then (1, D) else (0, { D with xs := D.xs.take n.toNat, safe := n.toNat })
/-- So many of the bytes that are not safe remain. -/
def Dk.kept (D : Dk) (keep : Int) : Nat := min keep.toNat (D.xs.length - D.safe)
/-- The first n bytes, the last of them turned. -/
def turned (xs : List UInt8) (n : Nat) (t : UInt8) : List UInt8 := xs.take (n - 1) ++ [xs.getD (n - 1) 0 ^^^ t]
def Dk.off (D : Dk) (keep : Int) (t : UInt8) : Dk :=
  if D.down then D else { D with xs := if D.kept keep = 0 then D.xs.take D.safe else turned D.xs (D.safe + D.kept keep) t, down := true }
def Dk.on (D : Dk) : Dk := if D.down then { D with safe := D.xs.length, boots := D.boots + 1, down := false } else D
def Dk.read (D : Dk) : List UInt8 := if D.down then [] else D.xs

theorem turned_length {xs : List UInt8} {n : Nat} (t : UInt8) (h : n ≤ xs.length) (h0 : 0 < n) : (turned xs n t).length = n := by
  unfold turned
  simp
  omega
theorem kept_le (D : Dk) (keep : Int) : D.kept keep ≤ D.xs.length - D.safe := by unfold Dk.kept; omega

theorem dkNew_ok (size : Int) : (dkNew size).Ok := ⟨by simp [dkNew], by simp [dkNew], by simp [dkNew]; omega⟩
section
variable {D : Dk}
theorem append_ok (h : D.Ok) (s : List UInt8) : (D.append s).2.Ok := by
  unfold Dk.append
  split
  · exact h
  · split
    · exact h
    · exact ⟨by have := h.safe; simp; omega, by simp; omega, h.size⟩
theorem sync_ok (h : D.Ok) : D.sync.2.Ok := by
  unfold Dk.sync
  split
  · exact h
  · exact ⟨Nat.le_refl _, h.full, h.size⟩
theorem trim_ok (h : D.Ok) (n : Int) : (D.trim n).2.Ok := by
  unfold Dk.trim
  split
  · exact h
  · split
    · exact h
    · have := h.full
      exact ⟨by simp; omega, by simp; omega, h.size⟩
theorem off_ok (h : D.Ok) (keep : Int) (t : UInt8) : (D.off keep t).Ok := by
  have h1 := h.safe
  have h2 := h.full
  have hk := kept_le D keep
  unfold Dk.off
  split
  · exact h
  · by_cases h0 : D.kept keep = 0
    · rw [if_pos h0]
      exact ⟨by simp; omega, by simp; omega, h.size⟩
    · rw [if_neg h0]
      have hl := turned_length (xs := D.xs) (n := D.safe + D.kept keep) t (by omega) (by omega)
      exact ⟨by simp only [hl]; omega, by simp only [hl]; omega, h.size⟩
theorem on_ok (h : D.Ok) : D.on.Ok := by
  unfold Dk.on
  split
  · exact ⟨Nat.le_refl _, h.full, h.size⟩
  · exact h
theorem append_boots (s : List UInt8) : (D.append s).2.boots = D.boots := by unfold Dk.append; split <;> (try split) <;> rfl
theorem sync_boots : D.sync.2.boots = D.boots := by unfold Dk.sync; split <;> rfl
theorem trim_boots (n : Int) : (D.trim n).2.boots = D.boots := by unfold Dk.trim; split <;> (try split) <;> rfl
theorem off_boots (keep : Int) (t : UInt8) : (D.off keep t).boots = D.boots := by unfold Dk.off; split <;> rfl
theorem on_boots : D.on.boots ≤ D.boots + 1 := by unfold Dk.on; split <;> simp
end

/-- One call of a script. -/
structure Cl where
  kind : Int
  s : List UInt8
  n : Int
  turn : UInt8
deriving Inhabited
structure Cl.Ok (c : Cl) : Prop where
  kind : I64 c.kind
  s : c.s.length ≤ maxLen
  n : I64 c.n
def Dk.call (D : Dk) (c : Cl) : Dk :=
  if c.kind = 0 then (D.append c.s).2 else if c.kind = 1 then D.sync.2 else if c.kind = 2 then (D.trim c.n).2 else if c.kind = 3 then D.off c.n c.turn else if c.kind = 4 then D.on else D
theorem call_ok {D : Dk} (h : D.Ok) (c : Cl) : (D.call c).Ok := by
  unfold Dk.call
  repeat' split
  · exact append_ok h _
  · exact sync_ok h
  · exact trim_ok h _
  · exact off_ok h _ _
  · exact on_ok h
  · exact h
theorem call_boots (D : Dk) (c : Cl) : (D.call c).boots ≤ D.boots + 1 := by
  unfold Dk.call
  repeat' split
  · rw [append_boots]; omega
  · rw [sync_boots]; omega
  · rw [trim_boots]; omega
  · rw [off_boots]; omega
  · exact on_boots
  · omega
end Go.Proofs.Ytmdoicemkddpgaa
