/- The walks of package pack's Reader. -/
import Derived.Test.YtlkeagfmlcbogaaPackB
namespace Go.Proofs.Ytlkeagfmlcbogaa
open Go.RowKit

/-- A Reader at block b: its remaining bytes, whether it has failed. -/
def Rd (w : World) (b : Nat) (l : List UInt8) (f : Bool) : Prop := At w b 92 #[.string ⟨l.toArray⟩, .bool f]

theorem grp_ok : ∀ (l : List UInt8) (i acc u k : Nat), i ≤ 10 → acc < 2 ^ (7 * i) → grp i acc l = some (u, k) → i < k ∧ k ≤ i + l.length ∧ U64 u
  | [], i, acc, u, k, _, _, h => by simp [grp] at h
  | b :: r, i, acc, u, k, hi10, ha, h => by
    rw [grp] at h
    by_cases h10 : i = 10
    · rw [if_pos h10] at h; cases h
    rw [if_neg h10] at h
    by_cases h9 : i = 9 ∧ 1 < b.toNat
    · rw [if_pos h9] at h; cases h
    rw [if_neg h9] at h
    by_cases hb : b.toNat < 128
    · rw [if_pos hb] at h
      by_cases h0 : b.toNat = 0 ∧ 0 < i
      · rw [if_pos h0] at h; cases h
      rw [if_neg h0] at h
      injection h with h
      injection h with h1 h2
      subst h1; subst h2
      refine ⟨by omega, by simp, ?_⟩
      unfold U64
      by_cases hi : i ≤ 8
      · have h3 := acc_more i acc b.toNat ha
        rw [Nat.mod_eq_of_lt hb] at h3
        have h4 : 2 ^ (7 * (i + 1)) ≤ 2 ^ 63 := Nat.pow_le_pow_right (by decide) (by omega)
        have h5 := Nat.lt_of_lt_of_le h3 h4
        omega
      · by_cases hi9 : i = 9
        · subst hi9
          have h6 : b.toNat ≤ 1 := by omega
          have h7 : b.toNat * 2 ^ (7 * 9) ≤ 1 * 2 ^ (7 * 9) := Nat.mul_le_mul_right _ h6
          omega
        · omega
    · rw [if_neg hb] at h
      obtain ⟨h1, h2, h3⟩ := grp_ok r (i + 1) _ u k (by omega) (acc_more i acc _ ha) h
      exact ⟨by omega, by simp; omega, h3⟩

set_option maxRecDepth 100000 in
set_option maxHeartbeats 400000 in
theorem fail_any (b : Nat) (l : List UInt8) (f : Bool) (w : World) (h : Rd w b l f) :
    Calls Try.prog 69 #[.pointer (some ⟨b, 0, none⟩)] w fun e w' => e = .returned (.tuple #[]) ∧ Rd w' b [] true ∧ w.grownBy w' (some b) := by
  have h0 : w.cell? ⟨b, 0, none⟩ = some (.string ⟨l.toArray⟩) := At.cell h 0
  have h1 : w.cell? ⟨b, 1, none⟩ = some (.bool f) := At.cell h 1
  have f0 := At.unfrozen h 0
  have f1 := At.unfrozen h 1
  go_enter Try.func69, Try.ntmps69
  go_wp2
  go_end0
  exact ⟨rfl, (At.put (At.put h 1 _) 0 _), grownBy_tr (grownBy_set _ _ _ _) (grownBy_set _ _ _ _)⟩

theorem number_nil (w : World) :
    Calls Try.prog 52 #[.pointer none] w fun e w' => e = .returned (.tuple #[.int .i64 0, .bool false]) ∧ w = w' := by
  go_enter Try.func52, Try.ntmps52
  go_wp2
  go_ret2
  exact ⟨rfl, rfl⟩

set_option maxRecDepth 100000 in
set_option maxHeartbeats 400000 in
theorem number_none (b : Nat) (l : List UInt8) (f : Bool) (w : World) (h : Rd w b l f) (hl : l.length ≤ maxLen) (hg : Hid (grp 0 0 l = none)) :
    Calls Try.prog 52 #[.pointer (some ⟨b, 0, none⟩)] w fun e w' => e = .returned (.tuple #[.int .i64 0, .bool false]) ∧ Rd w' b [] true ∧ w.grownBy w' (some b) := by
  have h0 : w.cell? ⟨b, 0, none⟩ = some (.string ⟨l.toArray⟩) := At.cell h 0
  go_enter Try.func52, Try.ntmps52
  go_wp2_with fail
  refine (takeGroups_any ⟨l.toArray⟩ (by simpa [ByteArray.size] using hl) _).mono ?_
  rintro e w' ⟨rfl, rfl⟩
  have hr : grpRes (grp 0 0 (ByteArray.mk l.toArray).data.toList) = .tuple #[.int .u64 0, .int .i64 0] := by
    show grpRes (grp 0 0 l) = _
    rw [hg.out]; rfl
  rw [hr]
  clear hr
  go_wp2_with fail
  refine (fail_any b l f _ h).mono ?_
  rintro e w' ⟨rfl, h2, h3⟩
  go_wp2
  go_ret2
  exact ⟨rfl, h2, h3⟩

set_option maxRecDepth 100000 in
set_option maxHeartbeats 400000 in
theorem number_some (b : Nat) (l : List UInt8) (f : Bool) (w : World) (h : Rd w b l f) (hl : l.length ≤ maxLen) (u k : Nat) (hg : Hid (grp 0 0 l = some (u, k))) :
    Calls Try.prog 52 #[.pointer (some ⟨b, 0, none⟩)] w fun e w' => e = .returned (.tuple #[.int .i64 (unzig u), .bool true]) ∧ Rd w' b (l.drop k) f ∧ w.grownBy w' (some b) := by
  have h0 : w.cell? ⟨b, 0, none⟩ = some (.string ⟨l.toArray⟩) := At.cell h 0
  have f0 := At.unfrozen h 0
  obtain ⟨g1, g2, g3⟩ := grp_ok l 0 0 u k (by omega) (by simp) hg.out
  unfold maxLen at hl
  have hk : ((k : Int) == 0) = false := by simp; omega
  have g2' : k ≤ l.length := by omega
  go_enter Try.func52, Try.ntmps52
  go_wp2_with fail
  refine (takeGroups_any ⟨l.toArray⟩ (by unfold maxLen; simpa [ByteArray.size] using hl) _).mono ?_
  rintro e w' ⟨rfl, rfl⟩
  have hr : grpRes (grp 0 0 (ByteArray.mk l.toArray).data.toList) = .tuple #[.int .u64 u, .int .i64 k] := by
    show grpRes (grp 0 0 l) = _
    rw [hg.out]; rfl
  rw [hr]
  clear hr
  go_wp2_with fail
  refine (fromZigzag_any u g3 _).mono ?_
  rintro e w' ⟨rfl, rfl⟩
  go_wp2
  go_ret2
  refine ⟨rfl, ?_, grownBy_set _ _ _ _⟩
  rw [extract_drop]
  exact At.put h 0 _

/-- Reader.Int. -/
theorem rint_none (b : Nat) (l : List UInt8) (f : Bool) (w : World) (h : Rd w b l f) (hl : l.length ≤ maxLen) (hg : Hid (grp 0 0 l = none)) :
    Calls Try.prog 27 #[.pointer (some ⟨b, 0, none⟩)] w fun e w' => e = .returned (.int .i64 0) ∧ Rd w' b [] true ∧ w.grownBy w' (some b) := by
  go_enter Try.func27, Try.ntmps27
  go_wp2_with fail
  refine (number_none b l f _ h hl hg).mono ?_
  rintro e w' ⟨rfl, h2, h3⟩
  go_wp2
  go_ret
  exact ⟨rfl, h2, h3⟩
theorem rint_some (b : Nat) (l : List UInt8) (f : Bool) (w : World) (h : Rd w b l f) (hl : l.length ≤ maxLen) (u k : Nat) (hg : Hid (grp 0 0 l = some (u, k))) :
    Calls Try.prog 27 #[.pointer (some ⟨b, 0, none⟩)] w fun e w' => e = .returned (.int .i64 (unzig u)) ∧ Rd w' b (l.drop k) f ∧ w.grownBy w' (some b) := by
  go_enter Try.func27, Try.ntmps27
  go_wp2_with fail
  refine (number_some b l f _ h hl u k hg).mono ?_
  rintro e w' ⟨rfl, h2, h3⟩
  go_wp2
  go_ret
  exact ⟨rfl, h2, h3⟩
theorem rint_nil (w : World) :
    Calls Try.prog 27 #[.pointer none] w fun e w' => e = .returned (.int .i64 0) ∧ w = w' := by
  go_enter Try.func27, Try.ntmps27
  go_wp2_with fail
  refine (number_nil _).mono ?_
  rintro e w' ⟨rfl, rfl⟩
  go_wp2
  go_ret
  exact ⟨rfl, rfl⟩

/-- Reader.End: OK exactly if it has not failed and nothing is left. -/
def endOf (l : List UInt8) (f : Bool) : Int := if f = true ∨ l ≠ [] then 4 else 0
theorem end_any (b : Nat) (l : List UInt8) (f : Bool) (w : World) (h : Rd w b l f) :
    Calls Try.prog 32 #[.pointer (some ⟨b, 0, none⟩)] w fun e w' => e = .returned (.int .i64 (endOf l f)) ∧ w = w' := by
  have h0 : w.cell? ⟨b, 0, none⟩ = some (.string ⟨l.toArray⟩) := At.cell h 0
  have h1 : w.cell? ⟨b, 1, none⟩ = some (.bool f) := At.cell h 1
  cases f with
  | true =>
    go_enter Try.func32, Try.ntmps32
    go_wp2
    go_ret
    exact ⟨ret_int (by simp [endOf]), rfl⟩
  | false =>
    cases l with
    | nil =>
      go_enter Try.func32, Try.ntmps32
      go_wp2
      go_ret
      exact ⟨ret_int (by simp [endOf]), rfl⟩
    | cons c r =>
      go_enter Try.func32, Try.ntmps32
      go_wp2
      go_ret
      exact ⟨ret_int (by simp [endOf]), rfl⟩
theorem end_nil (w : World) :
    Calls Try.prog 32 #[.pointer none] w fun e w' => e = .returned (.int .i64 2) ∧ w = w' := by
  go_enter Try.func32, Try.ntmps32
  go_wp2
  go_ret
  exact ⟨rfl, rfl⟩
theorem open_any (l : List UInt8) (w : World) :
    Calls Try.prog 26 #[.string ⟨l.toArray⟩] w fun e w' => e = .returned (.pointer (some ⟨w.heap.size, 0, none⟩)) ∧ Rd w' w.heap.size l false ∧ w.grownBy w' none := by
  go_enter Try.func26, Try.ntmps26
  go_wp2
  go_ret
  exact ⟨rfl, At.fresh _ _ _, World.grownBy_alloc _ _ _⟩
end Go.Proofs.Ytlkeagfmlcbogaa
