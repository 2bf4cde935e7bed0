/- The walks of the reference of layer 5. -/
import Derived.Test.YtdgcjhkncokieaaDiskD
namespace Go.Proofs.Ytdgcjhkncokieaa
open Go.RowKit
/-- The reference's disk D at block m. -/
def Ref (w : World) (m : Nat) (D : Dk) : Prop := At w m 42 #[.string ⟨(D.xs.take D.safe).toArray⟩, .string ⟨(D.xs.drop D.safe).toArray⟩, .int .i64 D.size, .bool D.down, .int .i64 D.boots]
theorem str_app (a l : List UInt8) : (⟨a.toArray⟩ : ByteArray) ++ ⟨l.toArray⟩ = ⟨(a ++ l).toArray⟩ := ByteArray.mk_append_mk a l
section
variable {w : World} {m : Nat} {D : Dk}
theorem Ref.still {w' : World} (h : Ref w m D) (k : Still w w') : Ref w' m D := k.at_ h
theorem grown_still {w' : World} {r : Option Nat} (h : Still w w') : w.grownBy w' r := ⟨h.os, h.tape, h.output, by rw [h.heap]; exact Nat.le_refl _, fun _ _ _ => by rw [h.heap]⟩

set_option maxRecDepth 100000 in
set_option maxHeartbeats 400000 in
theorem rnew_any (n : Int) (w : World) :
    Calls Try.prog 10 #[.int .i64 n] w fun e w' => e = .returned (.pointer (some ⟨w.heap.size, 0, none⟩)) ∧ Ref w' w.heap.size (dkNew n) ∧ Below w.heap.size w w' ∧ w'.heap.size = w.heap.size + 1 := by
  have key : ∀ k : Nat, min n.toNat 262144 = k → Ref (w.alloc (.cells #[.string ⟨#[]⟩, .string ⟨#[]⟩, .int .i64 k, .bool false, .int .i64 1] 42)) w.heap.size (dkNew n) := by
    intro k hk
    subst hk
    exact At.fresh _ _ _
  by_cases h1 : n < 0
  · have k1 := key 0 (by omega)
    go_enter Try.func10, Try.ntmps10
    go_wp2_with fail
    go_ret
    exact ⟨rfl, k1, (Below.refl _ _).alloc (Nat.le_refl _) _, by simp⟩
  · by_cases h2 : 262144 < n
    · have k1 := key 262144 (by omega)
      go_enter Try.func10, Try.ntmps10
      go_wp2_with fail
      go_ret
      exact ⟨rfl, k1, (Below.refl _ _).alloc (Nat.le_refl _) _, by simp⟩
    · obtain ⟨k, rfl⟩ : ∃ k : Nat, n = (k : Int) := ⟨n.toNat, by omega⟩
      have k1 := key k (by omega)
      go_enter Try.func10, Try.ntmps10
      go_wp2_with fail
      go_ret
      exact ⟨rfl, k1, (Below.refl _ _).alloc (Nat.le_refl _) _, by simp⟩

set_option maxRecDepth 100000 in
set_option maxHeartbeats 400000 in
theorem rappend_any (hR : Ref w m D) (hk : D.Ok) (s : List UInt8) (hs : s.length ≤ 1000000) :
    Calls Try.prog 25 #[.pointer (some ⟨m, 0, none⟩), .string ⟨s.toArray⟩] w fun e w' => e = .returned (.int .i64 ((D.append s).1 : Nat)) ∧ Ref w' m (D.append s).2 ∧ w.grownBy w' (some m) := by
  obtain ⟨xs, safe, size, boots, down⟩ := D
  have h1 := hk.full
  have h2 := hk.size
  have h3 := hk.safe
  simp only at h1 h2 h3
  have c0 : w.cell? ⟨m, 0, none⟩ = some (.string ⟨(xs.take safe).toArray⟩) := At.cell hR 0
  have c1 : w.cell? ⟨m, 1, none⟩ = some (.string ⟨(xs.drop safe).toArray⟩) := At.cell hR 1
  have c2 : w.cell? ⟨m, 2, none⟩ = some (.int .i64 size) := At.cell hR 2
  have c3 : w.cell? ⟨m, 3, none⟩ = some (.bool down) := At.cell hR 3
  have f1 := At.unfrozen hR 1
  have hp := At.put hR 1 (.string ⟨(xs.drop safe ++ s).toArray⟩)
  have e1 : (xs ++ s).take safe = xs.take safe := List.take_append_of_le_length h3
  have e2 : (xs ++ s).drop safe = xs.drop safe ++ s := List.drop_append_of_le_length h3
  have la : (xs.take safe).length = safe := by rw [List.length_take]; omega
  have ll : (xs.drop safe).length = xs.length - safe := List.length_drop
  have q3 := Lib.hid (show Ref (w.setCell ⟨m, 1, none⟩ (.string ⟨(xs.drop safe ++ s).toArray⟩)) m ⟨xs ++ s, safe, size, boots, down⟩ by
    unfold Ref
    simp only
    rw [e1, e2]
    exact hp)
  clear hp e1 e2
  unfold Dk.append
  simp only
  obtain ⟨a, ha⟩ : ∃ a, xs.take safe = a := ⟨_, rfl⟩
  obtain ⟨l, hl⟩ : ∃ l, xs.drop safe = l := ⟨_, rfl⟩
  rw [ha] at c0 la
  rw [hl] at c1 ll q3
  clear ha hl
  cases down
  · rw [if_neg Bool.false_ne_true]
    by_cases hf : size < xs.length + s.length
    · rw [if_pos hf]
      have ht : decide ((size : Int) < IntKind.i64.wrap (IntKind.i64.wrap ((a.length : Int) + (l.length : Int)) + (s.length : Int))) = true := by
        rw [IntKind.wrap_i64, IntKind.wrap_i64]; simp; omega
      have hls : l.length + s.length ≤ 2000000 := by omega
      clear la ll
      go_enter Try.func25, Try.ntmps25
      go_wp2_with fail
      go_quiet (fail)
      go_wp2_with fail
      go_ret
      exact ⟨rfl, hR.still (Still.drewN _ _), grown_still (Still.drewN _ _)⟩
    · rw [if_neg hf]
      have ht : decide ((size : Int) < IntKind.i64.wrap (IntKind.i64.wrap ((a.length : Int) + (l.length : Int)) + (s.length : Int))) = false := by
        rw [IntKind.wrap_i64, IntKind.wrap_i64]; simp; omega
      have hls : l.length + s.length ≤ 2000000 := by omega
      clear la ll
      go_enter Try.func25, Try.ntmps25
      go_wp2_with fail
      go_quiet (fail)
      go_wp2_with fail
      go_ret
      rw [str_app]
      exact ⟨rfl, q3.out, ⟨rfl, rfl, rfl, by simp [World.setCell], fun k _ hne => Below.heap_setCell _ _ _ _ (fun e => hne (by rw [e]))⟩⟩
  · rw [if_pos rfl]
    go_enter Try.func25, Try.ntmps25
    go_wp2_with fail
    go_ret
    exact ⟨rfl, hR, World.grownBy.refl _ _⟩

theorem grown_set {w : World} {m i : Nat} {u : Value} : w.grownBy (w.setCell ⟨m, i, none⟩ u) (some m) := grownBy_set w m i u
theorem ref_safe (hR : Ref w m D) : Ref ((w.setCell ⟨m, 0, none⟩ (.string ⟨D.xs.toArray⟩)).setCell ⟨m, 1, none⟩ (.string ⟨#[]⟩)) m { D with safe := D.xs.length } := by
  have hp := (At.put hR 0 (.string ⟨D.xs.toArray⟩)).put 1 (.string ⟨#[]⟩)
  unfold Ref
  simp only [List.take_length, List.drop_length]
  exact hp

set_option maxRecDepth 100000 in
set_option maxHeartbeats 400000 in
theorem rsync_any (hR : Ref w m D) (hk : D.Ok) :
    Calls Try.prog 26 #[.pointer (some ⟨m, 0, none⟩)] w fun e w' => e = .returned (.int .i64 (D.sync.1 : Nat)) ∧ Ref w' m D.sync.2 ∧ w.grownBy w' (some m) := by
  have q := ref_safe hR
  obtain ⟨xs, safe, size, boots, down⟩ := D
  have h1 := hk.full
  have h2 := hk.size
  have h3 := hk.safe
  simp only at h1 h2 h3
  have c0 : w.cell? ⟨m, 0, none⟩ = some (.string ⟨(xs.take safe).toArray⟩) := At.cell hR 0
  have c1 : w.cell? ⟨m, 1, none⟩ = some (.string ⟨(xs.drop safe).toArray⟩) := At.cell hR 1
  have c3 : w.cell? ⟨m, 3, none⟩ = some (.bool down) := At.cell hR 3
  have c4 : w.cell? ⟨m, 4, none⟩ = some (.int .i64 boots) := At.cell hR 4
  have f0 := At.unfrozen hR 0
  have f1 := At.unfrozen hR 1
  have f3 := At.unfrozen hR 3
  have f4 := At.unfrozen hR 4
  have la : (xs.take safe).length = safe := by rw [List.length_take]; omega
  have ll : (xs.drop safe).length = xs.length - safe := List.length_drop
  have hal : xs.take safe ++ xs.drop safe = xs := List.take_append_drop safe xs
  have hall := Lib.hid hal
  simp only at q
  have hln : (xs.take safe).length + (xs.drop safe).length ≤ 2000000 := by omega
  unfold Dk.sync
  simp only
  cases down
  · rw [if_neg Bool.false_ne_true]
    clear hal
    obtain ⟨a, ha⟩ : ∃ a, xs.take safe = a := ⟨_, rfl⟩
    obtain ⟨l, hl⟩ : ∃ l, xs.drop safe = l := ⟨_, rfl⟩
    rw [ha] at c0 la hall hln
    rw [hl] at c1 ll hall hln
    clear ha hl la ll
    go_enter Try.func26, Try.ntmps26
    go_wp2_with fail
    go_region
    all_goals
      go_wp2_with fail
      go_ret
      rw [str_app, hall.out]
      exact ⟨rfl, q.still (Still.drew _), grownBy_tr (grownBy_tr grown_set grown_set) (grown_still (Still.drew _))⟩
  · rw [if_pos rfl]
    go_enter Try.func26, Try.ntmps26
    go_wp2_with fail
    go_ret
    exact ⟨rfl, hR, World.grownBy.refl _ _⟩

theorem ref_on (hR : Ref w m D) : Ref ((((w.setCell ⟨m, 3, none⟩ (.bool false)).setCell ⟨m, 4, none⟩ (.int .i64 ((D.boots + 1 : Nat) : Int))).setCell ⟨m, 0, none⟩ (.string ⟨D.xs.toArray⟩)).setCell ⟨m, 1, none⟩ (.string ⟨#[]⟩)) m { D with safe := D.xs.length, boots := D.boots + 1, down := false } := by
  have hp := (((At.put hR 3 (.bool false)).put 4 (.int .i64 ((D.boots + 1 : Nat) : Int))).put 0 (.string ⟨D.xs.toArray⟩)).put 1 (.string ⟨#[]⟩)
  unfold Ref
  simp only [List.take_length, List.drop_length]
  exact hp

set_option maxRecDepth 100000 in
set_option maxHeartbeats 400000 in
theorem ron_any (hR : Ref w m D) (hk : D.Ok) (hbo : D.boots < 1000000) :
    Calls Try.prog 23 #[.pointer (some ⟨m, 0, none⟩)] w fun e w' => e = .returned (.tuple #[]) ∧ Ref w' m D.on ∧ w.grownBy w' (some m) := by
  have q := ref_on hR
  obtain ⟨xs, safe, size, boots, down⟩ := D
  have h1 := hk.full
  have h2 := hk.size
  have h3 := hk.safe
  simp only at h1 h2 h3
  have c0 : w.cell? ⟨m, 0, none⟩ = some (.string ⟨(xs.take safe).toArray⟩) := At.cell hR 0
  have c1 : w.cell? ⟨m, 1, none⟩ = some (.string ⟨(xs.drop safe).toArray⟩) := At.cell hR 1
  have c3 : w.cell? ⟨m, 3, none⟩ = some (.bool down) := At.cell hR 3
  have c4 : w.cell? ⟨m, 4, none⟩ = some (.int .i64 boots) := At.cell hR 4
  have f0 := At.unfrozen hR 0
  have f1 := At.unfrozen hR 1
  have f3 := At.unfrozen hR 3
  have f4 := At.unfrozen hR 4
  have la : (xs.take safe).length = safe := by rw [List.length_take]; omega
  have ll : (xs.drop safe).length = xs.length - safe := List.length_drop
  have hal : xs.take safe ++ xs.drop safe = xs := List.take_append_drop safe xs
  have hall := Lib.hid hal
  simp only at q hbo
  have hln : (xs.take safe).length + (xs.drop safe).length ≤ 2000000 := by omega
  unfold Dk.on
  simp only
  cases down
  · rw [if_neg Bool.false_ne_true]
    go_enter Try.func23, Try.ntmps23
    go_wp2_with fail
    refine bodyPost_ret (results_none rfl _ _ _) rfl ?_
    exact ⟨rfl, hR, World.grownBy.refl _ _⟩
  · rw [if_pos rfl]
    clear hal
    obtain ⟨a, ha⟩ : ∃ a, xs.take safe = a := ⟨_, rfl⟩
    obtain ⟨l, hl⟩ : ∃ l, xs.drop safe = l := ⟨_, rfl⟩
    rw [ha] at c0 la hall hln
    rw [hl] at c1 ll hall hln
    clear ha hl la ll
    go_enter Try.func23, Try.ntmps23
    go_wp2_with fail
    go_region
    all_goals
      go_wp2_with fail
      go_end0
      rw [str_app, hall.out]
      exact ⟨rfl, q.still (Still.drew _), grownBy_tr (grownBy_tr (grownBy_tr (grownBy_tr grown_set grown_set) grown_set) grown_set) (grown_still (Still.drew _))⟩
end
end Go.Proofs.Ytdgcjhkncokieaa
