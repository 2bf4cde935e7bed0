/- Names, places: the walks of the small functions, both sides. -/
/- Places: the walks of place, Place, IndexFunc, and of the reference's Find and Place. -/
/- The walks of Name, both sides. -/
import Derived.Test.YtnhalfdddcjicaaGreatQScA
import Derived.Test.YtnhalfdddcjicaaGreatQJag
import Derived.Test.YtnhalfdddcjicaaGreatQJah
namespace Go.Proofs.YtnhalfdddcjicaaGreat
open Go.RowKit

def lowerB (c : Nat) : Bool := decide (97 ≤ c) && decide (c ≤ 122)
def digitB (c : Nat) : Bool := decide (48 ≤ c) && decide (c ≤ 57)
def okAt (k c : Nat) : Bool := lowerB c || (!decide (k = 0) && (digitB c || decide (c = 95)))
def nameN (l : List UInt8) : Bool := decide (1 ≤ l.length) && decide (l.length ≤ 12) && (List.range l.length).all fun j => okAt j (l.getD j 0).toNat
theorem name_bad {l : List UInt8} {k : Nat} (hk : k < l.length) (h : okAt k (l.getD k 0).toNat = false) : nameN l = false := by
  unfold nameN
  rw [Bool.and_eq_false_iff]
  right
  rw [List.all_eq_false]
  exact ⟨k, by simpa using hk, by rw [h]; decide⟩
theorem name_all {l : List UInt8} (h : ∀ j, j < l.length → okAt j (l.getD j 0).toNat = true) : nameN l = (decide (1 ≤ l.length) && decide (l.length ≤ 12)) := by
  unfold nameN
  rw [List.all_eq_true.2 (fun j hj => h j (by simpa using hj)), Bool.and_true]
theorem name_long {l : List UInt8} (h : 12 < l.length) : nameN l = false := by
  unfold nameN
  have : decide (l.length ≤ 12) = false := by simp; omega
  rw [this, Bool.and_false, Bool.false_and]

theorem isLower_any (c : Nat) (w : World) : Calls Tryz.prog 90 #[.int .u8 (c : Int)] w fun e w' => e = .returned (.bool (lowerB c)) ∧ w = w' := by
  have H : Hid (lowerB c = (decide (97 ≤ c) && decide (c ≤ 122))) := rfl
  by_cases h1 : 97 ≤ c
  · have h1' : decide ((97 : Int) ≤ c) = true := by simp; omega
    by_cases h2 : c ≤ 122
    · have h2' : decide ((c : Int) ≤ 122) = true := by simp; omega
      go_enter Tryz.func90, Tryz.ntmps90
      go_wp2_with fail
      go_ret
      exact ⟨ret_b (by rw [H.out]; simp [h1, h2]), rfl⟩
    · have h2' : decide ((c : Int) ≤ 122) = false := by simp; omega
      go_enter Tryz.func90, Tryz.ntmps90
      go_wp2_with fail
      go_ret
      exact ⟨ret_b (by rw [H.out]; simp [h2]), rfl⟩
  · have h1' : decide ((97 : Int) ≤ c) = false := by simp; omega
    go_enter Tryz.func90, Tryz.ntmps90
    go_wp2_with fail
    go_ret
    exact ⟨ret_b (by rw [H.out]; simp [h1]), rfl⟩
theorem isDigit_any (c : Nat) (w : World) : Calls Tryz.prog 89 #[.int .u8 (c : Int)] w fun e w' => e = .returned (.bool (digitB c)) ∧ w = w' := by
  have H : Hid (digitB c = (decide (48 ≤ c) && decide (c ≤ 57))) := rfl
  by_cases h1 : 48 ≤ c
  · have h1' : decide ((48 : Int) ≤ c) = true := by simp; omega
    by_cases h2 : c ≤ 57
    · have h2' : decide ((c : Int) ≤ 57) = true := by simp; omega
      go_enter Tryz.func89, Tryz.ntmps89
      go_wp2_with fail
      go_ret
      exact ⟨ret_b (by rw [H.out]; simp [h1, h2]), rfl⟩
    · have h2' : decide ((c : Int) ≤ 57) = false := by simp; omega
      go_enter Tryz.func89, Tryz.ntmps89
      go_wp2_with fail
      go_ret
      exact ⟨ret_b (by rw [H.out]; simp [h2]), rfl⟩
  · have h1' : decide ((48 : Int) ≤ c) = false := by simp; omega
    go_enter Tryz.func89, Tryz.ntmps89
    go_wp2_with fail
    go_ret
    exact ⟨ret_b (by rw [H.out]; simp [h1]), rfl⟩

theorem nil_eq (l : List UInt8) (h : ¬ l.length = 0) : (l.toArray == #[]) = false := by
  cases l with
  | nil => simp at h
  | cons a r => simp

end Go.Proofs.YtnhalfdddcjicaaGreat

namespace Go.Proofs.YtnhalfdddcjicaaGreat
open Go.RowKit

/-- The first place below n at which f gives x. -/
def firstAt (f : Nat → List UInt8) (x : List UInt8) : Nat → Option Nat
  | 0 => none
  | n + 1 => match firstAt f x n with | some j => some j | none => if f n = x then some n else none
def firstI (f : Nat → List UInt8) (x : List UInt8) (n : Nat) : Int := match firstAt f x n with | some j => j | none => -1
theorem firstAt_more {f : Nat → List UInt8} {x : List UInt8} {k j : Nat} (h : firstAt f x k = some j) : ∀ d, firstAt f x (k + d) = some j
  | 0 => h
  | d + 1 => by rw [← Nat.add_assoc, firstAt, firstAt_more h d]
theorem first_hit {f : Nat → List UInt8} {x : List UInt8} {k n : Nat} (h : firstAt f x k = none) (hk : k < n) (e : f k = x) : firstI f x n = (k : Int) := by
  have h1 : firstAt f x (k + 1) = some k := by rw [firstAt, h]; simp [e]
  have h2 := firstAt_more h1 (n - (k + 1))
  rw [show k + 1 + (n - (k + 1)) = n by omega] at h2
  unfold firstI; rw [h2]
theorem first_next {f : Nat → List UInt8} {x : List UInt8} {k : Nat} (h : firstAt f x k = none) (e : f k ≠ x) : firstAt f x (k + 1) = none := by rw [firstAt, h]; simp [e]
theorem first_none {f : Nat → List UInt8} {x : List UInt8} {n : Nat} (h : firstAt f x n = none) : firstI f x n = -1 := by unfold firstI; rw [h]
theorem firstAt_some {f : Nat → List UInt8} {x : List UInt8} : ∀ {n j : Nat}, firstAt f x n = some j → j < n ∧ f j = x
  | 0, _, h => by cases h
  | n + 1, j, h => by
    rw [firstAt] at h
    cases hn : firstAt f x n with
    | some i =>
      rw [hn] at h
      obtain rfl : i = j := by simpa using h
      have := firstAt_some hn
      exact ⟨by omega, this.2⟩
    | none =>
      rw [hn] at h
      simp only at h
      split at h
      · rename_i e; obtain rfl : n = j := by simpa using h
        exact ⟨by omega, e⟩
      · cases h
theorem firstI_cases (f : Nat → List UInt8) (x : List UInt8) (n : Nat) : firstI f x n = -1 ∨ ∃ j : Nat, firstI f x n = (j : Int) ∧ j < n ∧ f j = x := by
  unfold firstI
  cases h : firstAt f x n with
  | none => exact .inl rfl
  | some j => exact .inr ⟨j, rfl, firstAt_some h⟩

theorem beq_dec (a b : List UInt8) : (a == b) = decide (a = b) := by rw [Bool.eq_iff_iff]; simp

theorem Tb.cs_fresh (w : World) (t : Tb) (ty : TypeId) : CellsT (w.alloc (.cells #[.string ⟨t.name.toArray⟩, .int .i64 t.owner, .slice t.cA t.cn t.ccap, .slice t.eA t.en t.ecap] ty)) w.heap.size 0 t := by
  have h := At.fresh w ty #[.string ⟨t.name.toArray⟩, .int .i64 t.owner, .slice t.cA t.cn t.ccap, .slice t.eA t.en t.ecap]
  exact ⟨h.cell 0, h.cell 1, h.cell 2, h.cell 3⟩

theorem place1_any (t : Tb) (x : List UInt8) (h : Nat) (w : World) (hc : w.cell? ⟨h, 0, none⟩ = some (.string ⟨x.toArray⟩)) :
    Calls Tryz.prog 119 #[t.val, .pointer (some ⟨h, 0, none⟩)] w fun e w' => e = .returned (.bool (decide (t.name = x))) ∧ Below w.heap.size w w' := by
  have hb := below_box w (.cells #[.string ⟨t.name.toArray⟩, .int .i64 t.owner, .slice t.cA t.cn t.ccap, .slice t.eA t.en t.ecap] 32)
  have hlt : h < w.heap.size := World.block_lt_of_cell? w _ hc
  have hne : ¬ h = w.heap.size := by omega
  unfold Tb.val
  go_enter Tryz.func119, Tryz.ntmps119
  go_wp2_with fail
  go_ret
  exact ⟨ret_b (beq_dec _ _), hb⟩
theorem Place1_any (c : Co) (x : List UInt8) (h : Nat) (w : World) (hc : w.cell? ⟨h, 0, none⟩ = some (.string ⟨x.toArray⟩)) :
    Calls Tryz.prog 114 #[c.val, .pointer (some ⟨h, 0, none⟩)] w fun e w' => e = .returned (.bool (decide (c.name = x))) ∧ Below w.heap.size w w' := by
  have hb := below_box w (.cells #[.string ⟨c.name.toArray⟩, .int .i64 c.kind, .bool c.nn, .bool c.un, .string ⟨c.ref.toArray⟩, .int .i64 c.del] 54)
  have hlt : h < w.heap.size := World.block_lt_of_cell? w _ hc
  have hne : ¬ h = w.heap.size := by omega
  unfold Co.val
  go_enter Tryz.func114, Tryz.ntmps114
  go_wp2_with fail
  go_ret
  exact ⟨ret_b (beq_dec _ _), hb⟩

set_option maxRecDepth 100000 in
set_option maxHeartbeats 1600000 in
theorem idxT_any (A : Option Addr) (n cap : Nat) (tab : Nat → Tb) (x : List UInt8) (h : Nat) (w : World) (hr : RowT w A n tab) (hn : n ≤ maxLen) (hc : w.cell? ⟨h, 0, none⟩ = some (.string ⟨x.toArray⟩)) :
    Calls Tryz.prog 60 #[.slice A n cap, .func (.func 119) #[] #[.pointer (some ⟨h, 0, none⟩)]] w fun e w' => e = .returned (.int .i64 (firstI (fun j => (tab j).name) x n)) ∧ Below w.heap.size w w' := by
  unfold maxLen at hn
  have hlt : h < w.heap.size := World.block_lt_of_cell? w _ hc
  go_enter Tryz.func60, Tryz.ntmps60
  go_wp2_with fail
  go_loopw [8] (fun i wr => ∃ k : Nat, k ≤ n ∧ i = .int .i64 k ∧ Below w.heap.size w wr ∧ Hid (firstAt (fun j => (tab j).name) x k = none)) (fun i _ => n - (intOf i).toNat)
  case atStart => exact ⟨0, by omega, rfl, Below.refl _ _, rfl⟩
  case round =>
    obtain ⟨k, hk, rfl, hbr, HF⟩ := hrel
    by_cases hkn : k < n
    · obtain ⟨b, off, rfl, hbl, hcell⟩ := hr (by omega)
      have hcl := (hcell k hkn).1.keep fun i => hbr.cell (p := ⟨b, i, none⟩) hbl
      obtain ⟨c0, c1, c2, c3⟩ := hcl
      have hcr := (hbr.cell (p := ⟨h, 0, none⟩) hlt).trans hc
      have hp := place1_any (tab k) x h wr hcr
      have HH := Lib.hid (fun e => first_hit (n := n) HF.out hkn e)
      have HN := Lib.hid (fun e => first_next (f := fun j => (tab j).name) HF.out e)
      clear hcell hr HF hc hcr
      unfold Tb.val at hp
      go_wp2_with fail
      refine hp.mono ?_
      rintro e w2 ⟨rfl, b2⟩
      have hb2 := below_in hbr b2
      by_cases he : (tab k).name = x
      · have hd : decide ((tab k).name = x) = true := by simpa using he
        go_wp2_with fail
        go_ret
        exact ⟨ret_int (HH.out he).symm, hb2⟩
      · have hd : decide ((tab k).name = x) = false := by simpa using he
        go_wp2_with fail
        exact ⟨⟨k + 1, by omega, by go_num, hb2, HN.out he⟩, by simp [intOf]; omega⟩
    · obtain rfl : k = n := by omega
      have HE := Lib.hid (first_none HF.out)
      go_wp2_with fail
      go_ret
      exact ⟨ret_int HE.out.symm, hbr⟩
set_option maxRecDepth 100000 in
set_option maxHeartbeats 1600000 in
theorem idxC_any (A : Option Addr) (n cap : Nat) (cs : List Co) (x : List UInt8) (h : Nat) (w : World) (hr : RowC w A n cs) (hn : n ≤ maxLen) (hc : w.cell? ⟨h, 0, none⟩ = some (.string ⟨x.toArray⟩)) :
    Calls Tryz.prog 113 #[.slice A n cap, .func (.func 114) #[] #[.pointer (some ⟨h, 0, none⟩)]] w fun e w' => e = .returned (.int .i64 (firstI (fun j => (cs.getD j default).name) x n)) ∧ Below w.heap.size w w' := by
  unfold maxLen at hn
  have hlt : h < w.heap.size := World.block_lt_of_cell? w _ hc
  go_enter Tryz.func113, Tryz.ntmps113
  go_wp2_with fail
  go_loopw [8] (fun i wr => ∃ k : Nat, k ≤ n ∧ i = .int .i64 k ∧ Below w.heap.size w wr ∧ Hid (firstAt (fun j => (cs.getD j default).name) x k = none)) (fun i _ => n - (intOf i).toNat)
  case atStart => exact ⟨0, by omega, rfl, Below.refl _ _, rfl⟩
  case round =>
    obtain ⟨k, hk, rfl, hbr, HF⟩ := hrel
    by_cases hkn : k < n
    · obtain ⟨b, off, rfl, hbl, hcell⟩ := hr.2.2 (by omega)
      have hcl := (hcell k hkn).keep fun i => hbr.cell (p := ⟨b, i, none⟩) hbl
      have HH := Lib.hid (fun e => first_hit (n := n) HF.out hkn e)
      have HN := Lib.hid (fun e => first_next (f := fun j => (cs.getD j default).name) HF.out e)
      generalize cs.getD k default = c at *
      obtain ⟨c0, c1, c2, c3, c4, c5⟩ := hcl
      have hcr := (hbr.cell (p := ⟨h, 0, none⟩) hlt).trans hc
      have hp := Place1_any c x h wr hcr
      clear hcell hr HF hc hcr
      unfold Co.val at hp
      go_wp2_with fail
      refine hp.mono ?_
      rintro e w2 ⟨rfl, b2⟩
      have hb2 := below_in hbr b2
      by_cases he : c.name = x
      · have hd : decide (c.name = x) = true := by simpa using he
        go_wp2_with fail
        go_ret
        exact ⟨ret_int (HH.out he).symm, hb2⟩
      · have hd : decide (c.name = x) = false := by simpa using he
        go_wp2_with fail
        exact ⟨⟨k + 1, by omega, by go_num, hb2, HN.out he⟩, by simp [intOf]; omega⟩
    · obtain rfl : k = n := by omega
      have HE := Lib.hid (first_none HF.out)
      go_wp2_with fail
      go_ret
      exact ⟨ret_int HE.out.symm, hbr⟩
theorem hmf (fn : Fn) (first cap : Array Value) (w : World) : (Instr.makeFunc fn first cap).run Tryz.prog w = .ok (.func fn first cap) w := rfl
set_option maxHeartbeats 800000 in
theorem place_any (s : Sc) (x : List UInt8) (w : World) (hs : InS w s) :
    Calls Tryz.prog 96 #[s.val, .string ⟨x.toArray⟩] w fun e w' => e = .returned (.int .i64 (firstI (fun j => (s.tab j).name) x s.tn)) ∧ Below w.heap.size w w' := by
  have hm := hmf
  have b0 := below_box w (.cells #[.int .i64 s.ver, .slice s.tA s.tn s.tcap, .slice s.gA s.gn s.gcap] 25)
  have b1 := below_box (w.alloc (.cells #[.int .i64 s.ver, .slice s.tA s.tn s.tcap, .slice s.gA s.gn s.gcap] 25)) (.cells #[.string ⟨x.toArray⟩] 9)
  have hA := At.fresh (w.alloc (.cells #[.int .i64 s.ver, .slice s.tA s.tn s.tcap, .slice s.gA s.gn s.gcap] 25)) 9 #[.string ⟨x.toArray⟩]
  rw [show (w.alloc (.cells #[.int .i64 s.ver, .slice s.tA s.tn s.tcap, .slice s.gA s.gn s.gcap] 25)).heap.size = w.heap.size + 1 by simp] at hA
  have hb := below_in b0 b1
  have hi := idxT_any s.tA s.tn s.tcap s.tab x (w.heap.size + 1) _ (hs.tabs.below hb) hs.tmax (hA.cell 0)
  unfold Sc.val
  clear b0 b1
  go_enter Tryz.func96, Tryz.ntmps96
  go_wp2_with fail
  refine hi.mono ?_
  rintro e w2 ⟨rfl, b2⟩
  go_wp2_with fail
  go_ret
  exact ⟨rfl, below_in hb b2⟩
set_option maxHeartbeats 800000 in
theorem Place_any (t : Tb) (x : List UInt8) (w : World) (hs : RowC w t.cA t.cn t.cols) (hm' : t.cn ≤ maxLen) :
    Calls Tryz.prog 91 #[t.val, .string ⟨x.toArray⟩] w fun e w' => e = .returned (.int .i64 (firstI (fun j => (t.cols.getD j default).name) x t.cn)) ∧ Below w.heap.size w w' := by
  have hm := hmf
  have b0 := below_box w (.cells #[.string ⟨t.name.toArray⟩, .int .i64 t.owner, .slice t.cA t.cn t.ccap, .slice t.eA t.en t.ecap] 32)
  have b1 := below_box (w.alloc (.cells #[.string ⟨t.name.toArray⟩, .int .i64 t.owner, .slice t.cA t.cn t.ccap, .slice t.eA t.en t.ecap] 32)) (.cells #[.string ⟨x.toArray⟩] 9)
  have hA := At.fresh (w.alloc (.cells #[.string ⟨t.name.toArray⟩, .int .i64 t.owner, .slice t.cA t.cn t.ccap, .slice t.eA t.en t.ecap] 32)) 9 #[.string ⟨x.toArray⟩]
  rw [show (w.alloc (.cells #[.string ⟨t.name.toArray⟩, .int .i64 t.owner, .slice t.cA t.cn t.ccap, .slice t.eA t.en t.ecap] 32)).heap.size = w.heap.size + 1 by simp] at hA
  have hb := below_in b0 b1
  have hi := idxC_any t.cA t.cn t.ccap t.cols x (w.heap.size + 1) _ (hs.below hb) hm' (hA.cell 0)
  unfold Tb.val
  clear b0 b1
  go_enter Tryz.func91, Tryz.ntmps91
  go_wp2_with fail
  refine hi.mono ?_
  rintro e w2 ⟨rfl, b2⟩
  go_wp2_with fail
  go_ret
  exact ⟨rfl, below_in hb b2⟩
set_option maxRecDepth 100000 in
set_option maxHeartbeats 1600000 in
theorem refFind_any (s : Sc) (x : List UInt8) (w : World) (hs : InS w s) :
    Calls Tryz.prog 26 #[s.val, .string ⟨x.toArray⟩] w fun e w' => e = .returned (.int .i64 (firstI (fun j => (s.tab j).name) x s.tn)) ∧ Below w.heap.size w w' := by
  have b0 := below_box w (.cells #[.int .i64 s.ver, .slice s.tA s.tn s.tcap, .slice s.gA s.gn s.gcap] 25)
  have hn := hs.tmax
  unfold maxLen at hn
  obtain ⟨ver, A, n, cap, tab, gA, gn, gcap, gs⟩ := s
  have hr := hs.tabs
  unfold Sc.val
  simp only at hr hn ⊢
  clear hs
  go_enter Tryz.func26, Tryz.ntmps26
  go_wp2_with fail
  go_loopw [10] (fun i wr => ∃ k : Nat, k ≤ n ∧ i = .int .i64 k ∧ Below w.heap.size w wr ∧ Hid (firstAt (fun j => (tab j).name) x k = none)) (fun i _ => n - (intOf i).toNat)
  case atStart => exact ⟨0, by omega, rfl, b0, rfl⟩
  case round =>
    obtain ⟨k, hk, rfl, hbr, HF⟩ := hrel
    by_cases hkn : k < n
    · obtain ⟨b, off, rfl, hbl, hcell⟩ := hr (by omega)
      have hcl := (hcell k hkn).1.keep fun i => hbr.cell (p := ⟨b, i, none⟩) hbl
      obtain ⟨c0, c1, c2, c3⟩ := hcl
      have HH := Lib.hid (fun e => first_hit (n := n) HF.out hkn e)
      have HN := Lib.hid (fun e => first_next (f := fun j => (tab j).name) HF.out e)
      have hbx := fun (cs : Array Value) => hbr.alloc hbr.size (.cells cs 32)
      clear hcell hr HF b0
      by_cases he : (tab k).name = x
      · have hd : ((tab k).name == x) = true := by simpa using he
        have HE := Lib.hid (HH.out he)
        clear he HH HN
        go_wp2_with fail
        go_ret
        exact ⟨ret_int HE.out.symm, hbx _⟩
      · have hd : ((tab k).name == x) = false := by simpa using he
        have HE := HN.out he
        clear he HH HN
        go_wp2_with fail
        exact ⟨⟨k + 1, by omega, by go_num, hbx _, HE⟩, by simp [intOf]; omega⟩
    · obtain rfl : k = n := by omega
      have HE := Lib.hid (first_none HF.out)
      go_wp2_with fail
      go_ret
      exact ⟨ret_int HE.out.symm, hbr⟩
set_option maxRecDepth 100000 in
set_option maxHeartbeats 1600000 in
theorem refPlace_any (t : Tb) (x : List UInt8) (w : World) (hs : RowC w t.cA t.cn t.cols) (hn : t.cn ≤ maxLen) :
    Calls Tryz.prog 56 #[t.val, .string ⟨x.toArray⟩] w fun e w' => e = .returned (.int .i64 (firstI (fun j => (t.cols.getD j default).name) x t.cn)) ∧ Below w.heap.size w w' := by
  have b0 := below_box w (.cells #[.string ⟨t.name.toArray⟩, .int .i64 t.owner, .slice t.cA t.cn t.ccap, .slice t.eA t.en t.ecap] 32)
  unfold maxLen at hn
  obtain ⟨nm, ow, A, n, cap, cs, eA, en, ecap, chk⟩ := t
  have hr := hs
  unfold Tb.val
  simp only at hr hn b0 ⊢
  clear hs
  go_enter Tryz.func56, Tryz.ntmps56
  go_wp2_with fail
  go_loopw [10] (fun i wr => ∃ k : Nat, k ≤ n ∧ i = .int .i64 k ∧ Below w.heap.size w wr ∧ Hid (firstAt (fun j => (cs.getD j default).name) x k = none)) (fun i _ => n - (intOf i).toNat)
  case atStart => exact ⟨0, by omega, rfl, b0, rfl⟩
  case round =>
    obtain ⟨k, hk, rfl, hbr, HF⟩ := hrel
    by_cases hkn : k < n
    · obtain ⟨b, off, rfl, hbl, hcell⟩ := hr.2.2 (by omega)
      have hcl := (hcell k hkn).keep fun i => hbr.cell (p := ⟨b, i, none⟩) hbl
      have HH := Lib.hid (fun e => first_hit (n := n) HF.out hkn e)
      have HN := Lib.hid (fun e => first_next (f := fun j => (cs.getD j default).name) HF.out e)
      have hbx := fun (cs : Array Value) => hbr.alloc hbr.size (.cells cs 54)
      generalize cs.getD k default = c at *
      obtain ⟨c0, c1, c2, c3, c4, c5⟩ := hcl
      clear hcell hr HF b0
      by_cases he : c.name = x
      · have hd : (c.name == x) = true := by simpa using he
        have HE := Lib.hid (HH.out he)
        clear he HH HN
        go_wp2_with fail
        go_ret
        exact ⟨ret_int HE.out.symm, hbx _⟩
      · have hd : (c.name == x) = false := by simpa using he
        have HE := HN.out he
        clear he HH HN
        go_wp2_with fail
        exact ⟨⟨k + 1, by omega, by go_num, hbx _, HE⟩, by simp [intOf]; omega⟩
    · obtain rfl : k = n := by omega
      have HE := Lib.hid (first_none HF.out)
      go_wp2_with fail
      go_ret
      exact ⟨ret_int HE.out.symm, hbr⟩
end Go.Proofs.YtnhalfdddcjicaaGreat

namespace Go.Proofs.YtnhalfdddcjicaaGreat
open Go.RowKit

set_option maxRecDepth 100000 in
set_option maxHeartbeats 8000000 in
theorem name_any (l : List UInt8) (hl : l.length ≤ maxLen) (w : World) : Calls Tryz.prog 62 #[.string ⟨l.toArray⟩] w fun e w' => e = .returned (.bool (nameN l)) ∧ w = w' := by
  unfold maxLen at hl
  by_cases h12 : 12 < l.length
  · have H := Lib.hid (name_long h12)
    have h12' : decide ((12 : Int) < l.length) = true := by simp; omega
    go_enter Tryz.func62, Tryz.ntmps62
    go_wp2_with fail
    go_ret
    exact ⟨ret_b H.out.symm, rfl⟩
  have h12' : decide ((12 : Int) < l.length) = false := by simp; omega
  go_enter Tryz.func62, Tryz.ntmps62
  go_wp2_with fail
  go_loop [10] (fun i => ∃ k : Nat, k ≤ l.length ∧ i = .int .i64 k ∧ Hid (∀ j, j < k → okAt j (l.getD j 0).toNat = true)) (fun i => l.length - (intOf i).toNat)
  case atStart => exact ⟨0, by omega, rfl, fun j hj => absurd hj (by omega)⟩
  case round =>
    obtain ⟨k, hk, rfl, HA⟩ := hrel
    by_cases hlt : k < l.length
    · have hix := fun (ww : World) => run_index_list (P := Tryz.prog) 9 l (k : Int) k _ Tryz.underlying9 rfl hlt rfl ww
      have HB := Lib.hid (@name_bad l k hlt)
      have HO : Hid (okAt k (l.getD k 0).toNat = (lowerB (l.getD k 0).toNat || (!decide (k = 0) && (digitB (l.getD k 0).toNat || decide ((l.getD k 0).toNat = 95))))) := rfl
      obtain ⟨x, hx⟩ : ∃ x, (l.getD k 0).toNat = x := ⟨_, rfl⟩
      have HX := Lib.hid hx
      rw [hx] at hix HB HO
      clear hx
      have cD := isDigit_any x
      have cL := isLower_any x
      obtain ⟨di, hdi⟩ : ∃ di, digitB x = di := ⟨_, rfl⟩
      obtain ⟨lo, hlo⟩ : ∃ lo, lowerB x = lo := ⟨_, rfl⟩
      rw [hdi, hlo] at HO
      rw [hdi] at cD
      rw [hlo] at cL
      clear hdi hlo
      have next : okAt k x = true → Hid (∀ j, j < k + 1 → okAt j (l.getD j 0).toNat = true) := fun ho j hj => by
        by_cases hjk : j = k
        · subst hjk; rw [HX.out]; exact ho
        · exact HA.out j (by omega)
      have NX := Lib.hid next
      clear next
      cases lo with
      | true =>
        have hn := NX.out (by rw [HO.out]; rfl)
        clear HB HO NX HX HA
        cases di <;>
        · go_wp2_with fail
          refine (cD _).mono ?_
          rintro e w' ⟨rfl, rfl⟩
          go_wp2_with fail
          refine (cL _).mono ?_
          rintro e w' ⟨rfl, rfl⟩
          go_wp2_with fail
          exact ⟨⟨_ + 1, by omega, by go_num, hn⟩, by simp [intOf]; omega⟩
      | false =>
        by_cases hk0 : k = 0
        · have hn := Lib.hid (HB.out (by rw [HO.out]; simp [hk0]))
          subst hk0
          have hix := fun (ww : World) => run_index_list (P := Tryz.prog) 9 l 0 0 x Tryz.underlying9 rfl hlt HX.out ww
          clear HB HO NX HX HA
          cases di <;>
          · go_wp2_with fail
            refine (cD _).mono ?_
            rintro e w' ⟨rfl, rfl⟩
            go_wp2_with fail
            refine (cL _).mono ?_
            rintro e w' ⟨rfl, rfl⟩
            go_wp2_with fail
            go_ret
            exact ⟨ret_b hn.out.symm, rfl⟩
        · have e0 : ((k : Int) == 0) = false := by simp; omega
          cases di with
          | true =>
            have hn := NX.out (by rw [HO.out]; simp [hk0])
            clear HB HO NX HX HA
            go_wp2_with fail
            refine (cD _).mono ?_
            rintro e w' ⟨rfl, rfl⟩
            go_wp2_with fail
            refine (cL _).mono ?_
            rintro e w' ⟨rfl, rfl⟩
            go_wp2_with fail
            exact ⟨⟨_ + 1, by omega, by go_num, hn⟩, by simp [intOf]; omega⟩
          | false =>
            by_cases h95 : x = 95
            · have e95 : ((x : Int) == 95) = true := by simp; omega
              have hn := NX.out (by rw [HO.out]; simp [hk0, h95])
              clear HB HO NX HX HA h95
              go_wp2_with fail
              refine (cD _).mono ?_
              rintro e w' ⟨rfl, rfl⟩
              go_wp2_with fail
              refine (cL _).mono ?_
              rintro e w' ⟨rfl, rfl⟩
              go_wp2_with fail
              exact ⟨⟨_ + 1, by omega, by go_num, hn⟩, by simp [intOf]; omega⟩
            · have e95 : ((x : Int) == 95) = false := by simp; omega
              have hn := Lib.hid (HB.out (by rw [HO.out]; simp [h95]))
              clear HB HO NX HX HA h95
              go_wp2_with fail
              refine (cD _).mono ?_
              rintro e w' ⟨rfl, rfl⟩
              go_wp2_with fail
              refine (cL _).mono ?_
              rintro e w' ⟨rfl, rfl⟩
              go_wp2_with fail
              go_ret
              exact ⟨ret_b hn.out.symm, rfl⟩
    · have hkl : k = l.length := by omega
      have HN := Lib.hid (name_all (l := l) (by rw [← hkl]; exact HA.out))
      by_cases h0 : l.length = 0
      · obtain rfl : l = [] := List.eq_nil_of_length_eq_zero h0
        go_wp2_with fail
        go_ret
        exact ⟨ret_b (by rw [HN.out]; rfl), rfl⟩
      · have hne := nil_eq l h0
        go_wp2_with fail
        go_ret
        exact ⟨ret_b (by rw [HN.out, show decide (1 ≤ l.length) = true by simp; omega, show decide (l.length ≤ 12) = true by simp; omega]; cases l <;> simp_all), rfl⟩
end Go.Proofs.YtnhalfdddcjicaaGreat
