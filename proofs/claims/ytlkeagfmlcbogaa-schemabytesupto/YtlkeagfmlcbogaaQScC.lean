/- Places: the walks of place, Place, IndexFunc, and of the reference's Find and Place. -/
import Derived.Test.YtlkeagfmlcbogaaQScB
namespace Go.Proofs.Ytlkeagfmlcbogaa
open Go.RowKit

/-- The first place below n at which f gives x. -/
def firstAt (f : Nat → List UInt8) (x : List UInt8) : Nat → Option Nat
  | 0 => none
  | n + 1 => match firstAt f x n with | some j => some j | none => if f n = x then some n else none
def firstI (f : Nat → List UInt8) (x : List UInt8) (n : Nat) : Int := match firstAt f x n with | some j => j | none => -1
theorem firstAt_more {f : Nat → List UInt8} {x : List UInt8} {k j : Nat} (h : firstAt f x k = some j) : ∀ d, firstAt f x (k + d) = some j
  | 0 => h
  | d + 1 => by rw [← Nat.add_assoc, firstAt, firstAt_more h d]
theorem first_hit {f : Nat → List UInt8} {x : List UInt8} {k n : Nat} (h : firstAt f x k = none) (hk : k < n) (e : f k = x) : firstI f x n = (k : Int) := by
  have h1 : firstAt f x (k + 1) = some k := by rw [firstAt, h]; simp [e]
  have h2 := firstAt_more h1 (n - (k + 1))
  rw [show k + 1 + (n - (k + 1)) = n by omega] at h2
  unfold firstI; rw [h2]
theorem first_next {f : Nat → List UInt8} {x : List UInt8} {k : Nat} (h : firstAt f x k = none) (e : f k ≠ x) : firstAt f x (k + 1) = none := by rw [firstAt, h]; simp [e]
theorem first_none {f : Nat → List UInt8} {x : List UInt8} {n : Nat} (h : firstAt f x n = none) : firstI f x n = -1 := by unfold firstI; rw [h]
theorem firstAt_some {f : Nat → List UInt8} {x : List UInt8} : ∀ {n j : Nat}, firstAt f x n = some j → j < n ∧ f j = x
  | 0, _, h => by cases h
  | n + 1, j, h => by
    rw [firstAt] at h
    cases hn : firstAt f x n with
    | some i =>
      rw [hn] at h
      obtain rfl : i = j := by simpa using h
      have := firstAt_some hn
      exact ⟨by omega, this.2⟩
    | none =>
      rw [hn] at h
      simp only at h
      split at h
      · rename_i e; obtain rfl : n = j := by simpa using h
        exact ⟨by omega, e⟩
      · cases h
theorem firstI_cases (f : Nat → List UInt8) (x : List UInt8) (n : Nat) : firstI f x n = -1 ∨ ∃ j : Nat, firstI f x n = (j : Int) ∧ j < n ∧ f j = x := by
  unfold firstI
  cases h : firstAt f x n with
  | none => exact .inl rfl
  | some j => exact .inr ⟨j, rfl, firstAt_some h⟩

theorem beq_dec (a b : List UInt8) : (a == b) = decide (a = b) := by rw [Bool.eq_iff_iff]; simp

theorem Tb.cs_fresh (w : World) (t : Tb) (ty : TypeId) : CellsT (w.alloc (.cells #[.string ⟨t.name.toArray⟩, .int .i64 t.owner, .slice t.cA t.cn t.ccap, .slice t.eA t.en t.ecap] ty)) w.heap.size 0 t := by
  have h := At.fresh w ty #[.string ⟨t.name.toArray⟩, .int .i64 t.owner, .slice t.cA t.cn t.ccap, .slice t.eA t.en t.ecap]
  exact ⟨h.cell 0, h.cell 1, h.cell 2, h.cell 3⟩

theorem place1_any (t : Tb) (x : List UInt8) (h : Nat) (w : World) (hc : w.cell? ⟨h, 0, none⟩ = some (.string ⟨x.toArray⟩)) :
    Calls Try.prog 86 #[t.val, .pointer (some ⟨h, 0, none⟩)] w fun e w' => e = .returned (.bool (decide (t.name = x))) ∧ Below w.heap.size w w' := by
  have hb := below_box w (.cells #[.string ⟨t.name.toArray⟩, .int .i64 t.owner, .slice t.cA t.cn t.ccap, .slice t.eA t.en t.ecap] 39)
  have hlt : h < w.heap.size := World.block_lt_of_cell? w _ hc
  have hne : ¬ h = w.heap.size := by omega
  unfold Tb.val
  go_enter Try.func86, Try.ntmps86
  go_wp2_with fail
  go_ret
  exact ⟨ret_b (beq_dec _ _), hb⟩
theorem Place1_any (c : Co) (x : List UInt8) (h : Nat) (w : World) (hc : w.cell? ⟨h, 0, none⟩ = some (.string ⟨x.toArray⟩)) :
    Calls Try.prog 41 #[c.val, .pointer (some ⟨h, 0, none⟩)] w fun e w' => e = .returned (.bool (decide (c.name = x))) ∧ Below w.heap.size w w' := by
  have hb := below_box w (.cells #[.string ⟨c.name.toArray⟩, .int .i64 c.kind, .bool c.nn, .bool c.un, .string ⟨c.ref.toArray⟩, .int .i64 c.del] 35)
  have hlt : h < w.heap.size := World.block_lt_of_cell? w _ hc
  have hne : ¬ h = w.heap.size := by omega
  unfold Co.val
  go_enter Try.func41, Try.ntmps41
  go_wp2_with fail
  go_ret
  exact ⟨ret_b (beq_dec _ _), hb⟩

set_option maxRecDepth 100000 in
set_option maxHeartbeats 1600000 in
theorem idxT_any (A : Option Addr) (n cap : Nat) (tab : Nat → Tb) (x : List UInt8) (h : Nat) (w : World) (hr : RowT w A n tab) (hn : n ≤ maxLen) (hc : w.cell? ⟨h, 0, none⟩ = some (.string ⟨x.toArray⟩)) :
    Calls Try.prog 85 #[.slice A n cap, .func (.func 86) #[] #[.pointer (some ⟨h, 0, none⟩)]] w fun e w' => e = .returned (.int .i64 (firstI (fun j => (tab j).name) x n)) ∧ Below w.heap.size w w' := by
  unfold maxLen at hn
  have hlt : h < w.heap.size := World.block_lt_of_cell? w _ hc
  go_enter Try.func85, Try.ntmps85
  go_wp2_with fail
  go_loopw [8] (fun i wr => ∃ k : Nat, k ≤ n ∧ i = .int .i64 k ∧ Below w.heap.size w wr ∧ Hid (firstAt (fun j => (tab j).name) x k = none)) (fun i _ => n - (intOf i).toNat)
  case atStart => exact ⟨0, by omega, rfl, Below.refl _ _, rfl⟩
  case round =>
    obtain ⟨k, hk, rfl, hbr, HF⟩ := hrel
    by_cases hkn : k < n
    · obtain ⟨b, off, rfl, hbl, hcell⟩ := hr (by omega)
      have hcl := (hcell k hkn).1.keep fun i => hbr.cell (p := ⟨b, i, none⟩) hbl
      obtain ⟨c0, c1, c2, c3⟩ := hcl
      have hcr := (hbr.cell (p := ⟨h, 0, none⟩) hlt).trans hc
      have hp := place1_any (tab k) x h wr hcr
      have HH := Lib.hid (fun e => first_hit (n := n) HF.out hkn e)
      have HN := Lib.hid (fun e => first_next (f := fun j => (tab j).name) HF.out e)
      clear hcell hr HF hc hcr
      unfold Tb.val at hp
      go_wp2_with fail
      refine hp.mono ?_
      rintro e w2 ⟨rfl, b2⟩
      have hb2 := below_in hbr b2
      by_cases he : (tab k).name = x
      · have hd : decide ((tab k).name = x) = true := by simpa using he
        go_wp2_with fail
        go_ret
        exact ⟨ret_int (HH.out he).symm, hb2⟩
      · have hd : decide ((tab k).name = x) = false := by simpa using he
        go_wp2_with fail
        exact ⟨⟨k + 1, by omega, by go_num, hb2, HN.out he⟩, by simp [intOf]; omega⟩
    · obtain rfl : k = n := by omega
      have HE := Lib.hid (first_none HF.out)
      go_wp2_with fail
      go_ret
      exact ⟨ret_int HE.out.symm, hbr⟩
set_option maxRecDepth 100000 in
set_option maxHeartbeats 1600000 in
theorem idxC_any (A : Option Addr) (n cap : Nat) (cs : List Co) (x : List UInt8) (h : Nat) (w : World) (hr : RowC w A n cs) (hn : n ≤ maxLen) (hc : w.cell? ⟨h, 0, none⟩ = some (.string ⟨x.toArray⟩)) :
    Calls Try.prog 40 #[.slice A n cap, .func (.func 41) #[] #[.pointer (some ⟨h, 0, none⟩)]] w fun e w' => e = .returned (.int .i64 (firstI (fun j => (cs.getD j default).name) x n)) ∧ Below w.heap.size w w' := by
  unfold maxLen at hn
  have hlt : h < w.heap.size := World.block_lt_of_cell? w _ hc
  go_enter Try.func40, Try.ntmps40
  go_wp2_with fail
  go_loopw [8] (fun i wr => ∃ k : Nat, k ≤ n ∧ i = .int .i64 k ∧ Below w.heap.size w wr ∧ Hid (firstAt (fun j => (cs.getD j default).name) x k = none)) (fun i _ => n - (intOf i).toNat)
  case atStart => exact ⟨0, by omega, rfl, Below.refl _ _, rfl⟩
  case round =>
    obtain ⟨k, hk, rfl, hbr, HF⟩ := hrel
    by_cases hkn : k < n
    · obtain ⟨b, off, rfl, hbl, hcell⟩ := hr.2.2 (by omega)
      have hcl := (hcell k hkn).keep fun i => hbr.cell (p := ⟨b, i, none⟩) hbl
      have HH := Lib.hid (fun e => first_hit (n := n) HF.out hkn e)
      have HN := Lib.hid (fun e => first_next (f := fun j => (cs.getD j default).name) HF.out e)
      generalize cs.getD k default = c at *
      obtain ⟨c0, c1, c2, c3, c4, c5⟩ := hcl
      have hcr := (hbr.cell (p := ⟨h, 0, none⟩) hlt).trans hc
      have hp := Place1_any c x h wr hcr
      clear hcell hr HF hc hcr
      unfold Co.val at hp
      go_wp2_with fail
      refine hp.mono ?_
      rintro e w2 ⟨rfl, b2⟩
      have hb2 := below_in hbr b2
      by_cases he : c.name = x
      · have hd : decide (c.name = x) = true := by simpa using he
        go_wp2_with fail
        go_ret
        exact ⟨ret_int (HH.out he).symm, hb2⟩
      · have hd : decide (c.name = x) = false := by simpa using he
        go_wp2_with fail
        exact ⟨⟨k + 1, by omega, by go_num, hb2, HN.out he⟩, by simp [intOf]; omega⟩
    · obtain rfl : k = n := by omega
      have HE := Lib.hid (first_none HF.out)
      go_wp2_with fail
      go_ret
      exact ⟨ret_int HE.out.symm, hbr⟩
theorem hmf (fn : Fn) (first cap : Array Value) (w : World) : (Instr.makeFunc fn first cap).run Try.prog w = .ok (.func fn first cap) w := rfl
set_option maxHeartbeats 800000 in
theorem place_any (s : Sc) (x : List UInt8) (w : World) (hs : InS w s) :
    Calls Try.prog 75 #[s.val, .string ⟨x.toArray⟩] w fun e w' => e = .returned (.int .i64 (firstI (fun j => (s.tab j).name) x s.tn)) ∧ Below w.heap.size w w' := by
  have hm := hmf
  have b0 := below_box w (.cells #[.int .i64 s.ver, .slice s.tA s.tn s.tcap, .slice s.gA s.gn s.gcap] 25)
  have b1 := below_box (w.alloc (.cells #[.int .i64 s.ver, .slice s.tA s.tn s.tcap, .slice s.gA s.gn s.gcap] 25)) (.cells #[.string ⟨x.toArray⟩] 9)
  have hA := At.fresh (w.alloc (.cells #[.int .i64 s.ver, .slice s.tA s.tn s.tcap, .slice s.gA s.gn s.gcap] 25)) 9 #[.string ⟨x.toArray⟩]
  rw [show (w.alloc (.cells #[.int .i64 s.ver, .slice s.tA s.tn s.tcap, .slice s.gA s.gn s.gcap] 25)).heap.size = w.heap.size + 1 by simp] at hA
  have hb := below_in b0 b1
  have hi := idxT_any s.tA s.tn s.tcap s.tab x (w.heap.size + 1) _ (hs.tabs.below hb) hs.tmax (hA.cell 0)
  unfold Sc.val
  clear b0 b1
  go_enter Try.func75, Try.ntmps75
  go_wp2_with fail
  refine hi.mono ?_
  rintro e w2 ⟨rfl, b2⟩
  go_wp2_with fail
  go_ret
  exact ⟨rfl, below_in hb b2⟩
set_option maxHeartbeats 800000 in
theorem Place_any (t : Tb) (x : List UInt8) (w : World) (hs : RowC w t.cA t.cn t.cols) (hm' : t.cn ≤ maxLen) :
    Calls Try.prog 14 #[t.val, .string ⟨x.toArray⟩] w fun e w' => e = .returned (.int .i64 (firstI (fun j => (t.cols.getD j default).name) x t.cn)) ∧ Below w.heap.size w w' := by
  have hm := hmf
  have b0 := below_box w (.cells #[.string ⟨t.name.toArray⟩, .int .i64 t.owner, .slice t.cA t.cn t.ccap, .slice t.eA t.en t.ecap] 39)
  have b1 := below_box (w.alloc (.cells #[.string ⟨t.name.toArray⟩, .int .i64 t.owner, .slice t.cA t.cn t.ccap, .slice t.eA t.en t.ecap] 39)) (.cells #[.string ⟨x.toArray⟩] 9)
  have hA := At.fresh (w.alloc (.cells #[.string ⟨t.name.toArray⟩, .int .i64 t.owner, .slice t.cA t.cn t.ccap, .slice t.eA t.en t.ecap] 39)) 9 #[.string ⟨x.toArray⟩]
  rw [show (w.alloc (.cells #[.string ⟨t.name.toArray⟩, .int .i64 t.owner, .slice t.cA t.cn t.ccap, .slice t.eA t.en t.ecap] 39)).heap.size = w.heap.size + 1 by simp] at hA
  have hb := below_in b0 b1
  have hi := idxC_any t.cA t.cn t.ccap t.cols x (w.heap.size + 1) _ (hs.below hb) hm' (hA.cell 0)
  unfold Tb.val
  clear b0 b1
  go_enter Try.func14, Try.ntmps14
  go_wp2_with fail
  refine hi.mono ?_
  rintro e w2 ⟨rfl, b2⟩
  go_wp2_with fail
  go_ret
  exact ⟨rfl, below_in hb b2⟩
end Go.Proofs.Ytlkeagfmlcbogaa
