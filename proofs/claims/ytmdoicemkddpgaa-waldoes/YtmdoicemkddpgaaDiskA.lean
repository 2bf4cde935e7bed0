/- The walks of package disk. -/
import Derived.Test.YtmdoicemkddpgaaRows
import Derived.WalkKit
import Derived.WalkSpells
import Derived.WalkLawsBesides
import Derived.Lib.Hide
import Derived.Deep.LoopGhost
import Derived.Deep.QuietTactic
import Derived.Laws.BitsAllLaws
import Derived.Test.YtmdoicemkddpgaaInfo
import Derived.Test.YtmdoicemkddpgaaDiskM
import Derived.Test.YtmdoicemkddpgaaDiskB
namespace Go.Proofs.Ytmdoicemkddpgaa
open Go.RowKit

/-- The program's disk D at block b, its bytes being v's. -/
structure Dsk (w : World) (base b : Nat) (v : Value) (D : Dk) : Prop where
  at_ : At w b 50 #[v, .int .i64 D.safe, .int .i64 D.size, .int .i64 D.boots, .bool D.down]
  bts : Bts w base 5 v D.xs
section
variable {w w' : World} {base b : Nat} {v : Value} {D : Dk}
theorem Dsk.apart (h : Dsk w base b v D) : v.ownBlock ≠ some b := h.bts.apart h.at_ (by decide)
theorem Dsk.below {B : Nat} (h : Dsk w base b v D) (hb : Below B w w') (hB : b < B) (hv : ∀ g, v.ownBlock = some g → g < B) : Dsk w' base b v D := ⟨h.at_.below hb hB, h.bts.below hb hv⟩
theorem Dsk.still (h : Dsk w base b v D) (k : Still w w') : Dsk w' base b v D := ⟨k.at_ h.at_, h.bts.still k⟩
theorem Dsk.alloc (h : Dsk w base b v D) (o : Obj) : Dsk (w.alloc o) base b v D := ⟨h.at_.alloc o, h.bts.alloc o⟩
end

set_option maxRecDepth 100000 in
set_option maxHeartbeats 400000 in
theorem limit_any (n : Int) (m : Nat) (w : World) :
    Calls Try.prog 25 #[.int .i64 n, .int .i64 m] w fun e w' => e = .returned (.int .i64 (min n.toNat m : Nat)) ∧ w = w' := by
  have h0 : ¬ (m : Int) < 0 := by omega
  by_cases h : n < 0
  · go_enter Try.func25, Try.ntmps25
    go_wp2_with fail
    go_ret
    exact ⟨ret_int (by omega), rfl⟩
  · by_cases hm : (m : Int) < n
    · go_enter Try.func25, Try.ntmps25
      go_wp2_with fail
      go_ret
      exact ⟨ret_int (by omega), rfl⟩
    · go_enter Try.func25, Try.ntmps25
      go_wp2_with fail
      go_ret
      exact ⟨ret_int (by omega), rfl⟩

section
variable {w : World} {base b : Nat} {v : Value} {D : Dk}
set_option maxRecDepth 100000 in
set_option maxHeartbeats 400000 in
theorem usable_any (h : Dsk w base b v D) :
    Calls Try.prog 31 #[.pointer (some ⟨b, 0, none⟩)] w fun e w' => e = .returned (.int .i64 (if D.down then 7 else 0)) ∧ w = w' := by
  obtain ⟨xs, safe, size, boots, down⟩ := D
  have c4 : w.cell? ⟨b, 4, none⟩ = some (.bool down) := At.cell h.at_ 4
  cases down
  all_goals
    go_enter Try.func31, Try.ntmps31
    go_wp2_with fail
    go_ret
    exact ⟨rfl, rfl⟩
set_option maxRecDepth 100000 in
set_option maxHeartbeats 400000 in
theorem safe_any (h : Dsk w base b v D) :
    Calls Try.prog 16 #[.pointer (some ⟨b, 0, none⟩)] w fun e w' => e = .returned (.int .i64 D.safe) ∧ w = w' := by
  have c1 : w.cell? ⟨b, 1, none⟩ = some (.int .i64 D.safe) := At.cell h.at_ 1
  go_enter Try.func16, Try.ntmps16
  go_wp2_with fail
  go_ret
  exact ⟨rfl, rfl⟩
set_option maxRecDepth 100000 in
set_option maxHeartbeats 400000 in
theorem left_quiet (h : Dsk w base b v D) (hk : D.Ok) :
    Calls Try.prog 12 #[.pointer (some ⟨b, 0, none⟩)] w fun e w' => e = .returned (.int .i64 (D.size - D.xs.length : Nat)) ∧ ∃ n, w' = w.drewN n := by
  have c0 : w.cell? ⟨b, 0, none⟩ = some v := At.cell h.at_ 0
  have c1 : w.cell? ⟨b, 2, none⟩ = some (.int .i64 D.size) := At.cell h.at_ 2
  obtain ⟨A, cap, rfl, hl, hm⟩ := h.bts.len
  have h1 := hk.full
  have h2 := hk.size
  go_enter Try.func12, Try.ntmps12
  go_wp2_with fail
  go_quiet (fail)
  go_wp2_with fail
  go_ret
  exact ⟨ret_int (by rw [IntKind.wrap_i64]; omega), _, rfl⟩
theorem left_any (h : Dsk w base b v D) (hk : D.Ok) :
    Calls Try.prog 12 #[.pointer (some ⟨b, 0, none⟩)] w fun e w' => e = .returned (.int .i64 (D.size - D.xs.length : Nat)) ∧ Still w w' :=
  (left_quiet h hk).mono fun _ _ ⟨h1, n, h2⟩ => ⟨h1, h2 ▸ Still.drewN w n⟩
set_option maxRecDepth 100000 in
set_option maxHeartbeats 400000 in
theorem down_any (h : Dsk w base b v D) :
    Calls Try.prog 27 #[.pointer (some ⟨b, 0, none⟩)] w fun e w' => e = .returned (.bool D.down) ∧ w = w' := by
  have c1 : w.cell? ⟨b, 4, none⟩ = some (.bool D.down) := At.cell h.at_ 4
  go_enter Try.func27, Try.ntmps27
  go_wp2_with fail
  go_ret
  exact ⟨rfl, rfl⟩
set_option maxRecDepth 100000 in
set_option maxHeartbeats 400000 in
theorem read_any (h : Dsk w base b v D) :
    Calls Try.prog 17 #[.pointer (some ⟨b, 0, none⟩)] w fun e w' => e = .returned (.string ⟨D.read.toArray⟩) ∧ w = w' := by
  have hu := usable_any h
  have c0 : w.cell? ⟨b, 0, none⟩ = some v := At.cell h.at_ 0
  have hc := h.bts.conv (P := Try.prog) 48 9 Try.underlying48 Try.underlying5 Try.underlying9
  unfold Dk.read
  obtain ⟨xs, safe, size, boots, down⟩ := D
  cases down
  all_goals
    go_enter Try.func17, Try.ntmps17
    go_wp2_with fail
    refine hu.mono ?_
    rintro e w' ⟨rfl, rfl⟩
    go_wp2_with fail
    go_ret
    exact ⟨rfl, rfl⟩

theorem Wgrew.still {w w' : World} {b : Nat} {v : Value} (h : Still w w') : Wgrew w b v w' v := ⟨h.os, h.tape, h.output, by rw [h.heap]; exact Nat.le_refl _, fun _ _ _ _ => by rw [h.heap], fun _ h => .inl h⟩
theorem Wgrew.set {w : World} {b i : Nat} {v u : Value} : Wgrew w b v (w.setCell ⟨b, i, none⟩ u) v := ⟨rfl, rfl, rfl, by simp [World.setCell], fun _ _ h _ => Below.heap_setCell _ _ _ _ h, fun _ h => .inl h⟩

set_option maxRecDepth 100000 in
set_option maxHeartbeats 400000 in
theorem cut_any (h : Dsk w base b v D) (n : Nat) (hn : n ≤ D.xs.length) :
    Calls Try.prog 32 #[.pointer (some ⟨b, 0, none⟩), .int .i64 n] w fun e w' => e = .returned (.tuple #[]) ∧ ∃ v', Dsk w' base b v' { D with xs := D.xs.take n } ∧ Wgrew w b v w' v' := by
  have c0 : w.cell? ⟨b, 0, none⟩ = some v := At.cell h.at_ 0
  have f0 := At.unfrozen h.at_ 0
  have hne := h.apart
  obtain ⟨A, cap, rfl, hl, _⟩ := h.bts.len
  have hc := h.bts.cut hn
  have hp := h.at_.put 0 (.slice A n n)
  have hnc : n ≤ cap := by omega
  go_enter Try.func32, Try.ntmps32
  go_wp2_with fail
  go_end0
  refine ⟨rfl, .slice A n n, ⟨hp, ?_⟩, ?_⟩
  · exact hc.far (p := ⟨b, 0, none⟩) (by cases A <;> exact hne) _
  · refine ⟨rfl, rfl, rfl, by simp [World.setCell], fun _ _ h _ => Below.heap_setCell _ _ _ _ h, fun g hg => .inl ?_⟩
    cases A <;> exact hg
end
end Go.Proofs.Ytmdoicemkddpgaa
