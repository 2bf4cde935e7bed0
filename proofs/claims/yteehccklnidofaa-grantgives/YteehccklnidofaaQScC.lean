/- Places: the walks of place, Place, IndexFunc, and of the reference's Find and Place. -/
import Derived.Test.YteehccklnidofaaQScB
namespace Go.Proofs.Yteehccklnidofaa
open Go.RowKit

/-- The first place below n at which f gives x. -/
def firstAt (f : Nat → List UInt8) (x : List UInt8) : Nat → Option Nat
  | 0 => none
  | n + 1 => match firstAt f x n with | some j => some j | none => if f n = x then some n else none
def firstI (f : Nat → List UInt8) (x : List UInt8) (n : Nat) : Int := match firstAt f x n with | some j => j | none => -1
theorem firstAt_more {f : Nat → List UInt8} {x : List UInt8} {k j : Nat} (h : firstAt f x k = some j) : ∀ d, firstAt f x (k + d) = some j
  | 0 => h
  | d + 1 => by rw [← Nat.add_assoc, firstAt, firstAt_more h d]
theorem first_hit {f : Nat → List UInt8} {x : List UInt8} {k n : Nat} (h : firstAt f x k = none) (hk : k < n) (e : f k = x) : firstI f x n = (k : Int) := by
  have h1 : firstAt f x (k + 1) = some k := by rw [firstAt, h]; simp [e]
  have h2 := firstAt_more h1 (n - (k + 1))
  rw [show k + 1 + (n - (k + 1)) = n by omega] at h2
  unfold firstI; rw [h2]
theorem first_next {f : Nat → List UInt8} {x : List UInt8} {k : Nat} (h : firstAt f x k = none) (e : f k ≠ x) : firstAt f x (k + 1) = none := by rw [firstAt, h]; simp [e]
theorem first_none {f : Nat → List UInt8} {x : List UInt8} {n : Nat} (h : firstAt f x n = none) : firstI f x n = -1 := by unfold firstI; rw [h]
theorem firstAt_some {f : Nat → List UInt8} {x : List UInt8} : ∀ {n j : Nat}, firstAt f x n = some j → j < n ∧ f j = x
  | 0, _, h => by cases h
  | n + 1, j, h => by
    rw [firstAt] at h
    cases hn : firstAt f x n with
    | some i =>
      rw [hn] at h
      obtain rfl : i = j := by simpa using h
      have := firstAt_some hn
      exact ⟨by omega, this.2⟩
    | none =>
      rw [hn] at h
      simp only at h
      split at h
      · rename_i e; obtain rfl : n = j := by simpa using h
        exact ⟨by omega, e⟩
      · cases h
theorem firstI_cases (f : Nat → List UInt8) (x : List UInt8) (n : Nat) : firstI f x n = -1 ∨ ∃ j : Nat, firstI f x n = (j : Int) ∧ j < n ∧ f j = x := by
  unfold firstI
  cases h : firstAt f x n with
  | none => exact .inl rfl
  | some j => exact .inr ⟨j, rfl, firstAt_some h⟩

theorem beq_dec (a b : List UInt8) : (a == b) = decide (a = b) := by rw [Bool.eq_iff_iff]; simp

theorem Tb.cs_fresh (w : World) (t : Tb) (ty : TypeId) : CellsT (w.alloc (.cells #[.string ⟨t.name.toArray⟩, .int .i64 t.owner, .slice t.cA t.cn t.ccap, .slice t.eA t.en t.ecap] ty)) w.heap.size 0 t := by
  have h := At.fresh w ty #[.string ⟨t.name.toArray⟩, .int .i64 t.owner, .slice t.cA t.cn t.ccap, .slice t.eA t.en t.ecap]
  exact ⟨h.cell 0, h.cell 1, h.cell 2, h.cell 3⟩

theorem hmf (fn : Fn) (first cap : Array Value) (w : World) : (Instr.makeFunc fn first cap).run Try.prog w = .ok (.func fn first cap) w := rfl
set_option maxRecDepth 100000 in
set_option maxHeartbeats 1600000 in
theorem refFind_any (s : Sc) (x : List UInt8) (w : World) (hs : InS w s) :
    Calls Try.prog 24 #[s.val, .string ⟨x.toArray⟩] w fun e w' => e = .returned (.int .i64 (firstI (fun j => (s.tab j).name) x s.tn)) ∧ Below w.heap.size w w' := by
  have b0 := below_box w (.cells #[.int .i64 s.ver, .slice s.tA s.tn s.tcap, .slice s.gA s.gn s.gcap] 36)
  have hn := hs.tmax
  unfold maxLen at hn
  obtain ⟨ver, A, n, cap, tab, gA, gn, gcap, gs⟩ := s
  have hr := hs.tabs
  unfold Sc.val
  simp only at hr hn ⊢
  clear hs
  go_enter Try.func24, Try.ntmps24
  go_wp2_with fail
  go_loopw [10] (fun i wr => ∃ k : Nat, k ≤ n ∧ i = .int .i64 k ∧ Below w.heap.size w wr ∧ Hid (firstAt (fun j => (tab j).name) x k = none)) (fun i _ => n - (intOf i).toNat)
  case atStart => exact ⟨0, by omega, rfl, b0, rfl⟩
  case round =>
    obtain ⟨k, hk, rfl, hbr, HF⟩ := hrel
    by_cases hkn : k < n
    · obtain ⟨b, off, rfl, hbl, hcell⟩ := hr (by omega)
      have hcl := (hcell k hkn).1.keep fun i => hbr.cell (p := ⟨b, i, none⟩) hbl
      obtain ⟨c0, c1, c2, c3⟩ := hcl
      have HH := Lib.hid (fun e => first_hit (n := n) HF.out hkn e)
      have HN := Lib.hid (fun e => first_next (f := fun j => (tab j).name) HF.out e)
      have hbx := fun (cs : Array Value) => hbr.alloc hbr.size (.cells cs 48)
      clear hcell hr HF b0
      by_cases he : (tab k).name = x
      · have hd : ((tab k).name == x) = true := by simpa using he
        have HE := Lib.hid (HH.out he)
        clear he HH HN
        go_wp2_with fail
        go_ret
        exact ⟨ret_int HE.out.symm, hbx _⟩
      · have hd : ((tab k).name == x) = false := by simpa using he
        have HE := HN.out he
        clear he HH HN
        go_wp2_with fail
        exact ⟨⟨k + 1, by omega, by go_num, hbx _, HE⟩, by simp [intOf]; omega⟩
    · obtain rfl : k = n := by omega
      have HE := Lib.hid (first_none HF.out)
      go_wp2_with fail
      go_ret
      exact ⟨ret_int HE.out.symm, hbr⟩
end Go.Proofs.Yteehccklnidofaa
