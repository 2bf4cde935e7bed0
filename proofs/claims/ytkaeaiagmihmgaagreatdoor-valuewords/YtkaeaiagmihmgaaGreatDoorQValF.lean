/- The walks of package value's noKey, Int, cutNumber. -/
/- The walk of the laws' second test: is more given than is played? -/
import Derived.Test.YtkaeaiagmihmgaaGreatDoorQValE
import Derived.Test.YtkaeaiagmihmgaaGreatDoorQOpen
namespace Go.Proofs.YtkaeaiagmihmgaaGreatDoor
open Go.RowKit

def cutRes : Option (Vl × List UInt8) → Value
  | some (v, r) => .tuple #[v.val, .string ⟨r.toArray⟩, .int .i64 0]
  | none => .tuple #[(Vl.mk 0 0 []).val, .string ⟨#[]⟩, .int .i64 4]
theorem cutRes_none : cutRes none = .tuple #[.agg #[.int .i64 0, .int .i64 0, .string ⟨#[]⟩], .string ⟨#[]⟩, .int .i64 4] := rfl
theorem cutRes_some (k n : Int) (t r : List UInt8) : cutRes (some (⟨k, n, t⟩, r)) = .tuple #[.agg #[.int .i64 k, .int .i64 n, .string ⟨t.toArray⟩], .string ⟨r.toArray⟩, .int .i64 0] := rfl

set_option maxHeartbeats 400000 in
theorem vint_any (n : Int) (w : World) :
    Calls Tryz.prog 38 #[.int .i64 n] w fun e w' => e = .returned (Vl.mk 1 n []).val ∧ Below w.heap.size w w' := by
  go_enter Tryz.func38, Tryz.ntmps38
  go_wp2
  refine bodyPost_ret (v := (Vl.mk 1 n []).val) (by simp [results, Tryz.results38, go_sem, Vl.val]) rfl ⟨rfl, below_box _ _⟩

theorem below_put3 {B : Nat} {w w1 : World} (h : Below B w w1) (x y z : Value) : Below B w (((w1.setCell ⟨B, 0, none⟩ x).setCell ⟨B, 1, none⟩ y).setCell ⟨B, 2, none⟩ z) :=
  ((h.setCell (p := ⟨B, 0, none⟩) (Nat.le_refl _) x).setCell (p := ⟨B, 1, none⟩) (Nat.le_refl _) y).setCell (p := ⟨B, 2, none⟩) (Nat.le_refl _) z
theorem or_byte (acc b : Nat) (ha : acc < 72057594037927936) (hb : b < 256) : bits .or .u64 (IntKind.u64.wrap ((acc : Int) * 256)) (IntKind.u64.wrap (b : Int)) = ((acc * 256 + b : Nat) : Int) := by
  have e2 : IntKind.u64.wrap (b : Int) = (b : Int) := by rw [IntKind.wrap_u64]; omega
  rw [e2]
  have e : IntKind.u64.wrap ((acc : Int) * 256) = ((acc * 256 : Nat) : Int) := by rw [IntKind.wrap_u64]; omega
  rw [e, u64_or _ _ (by omega) (by omega) (by omega) (by omega)]
  simp only [Int.toNat_natCast]
  rw [Nat.mul_comm, nat_join 8 _ _ (by omega) (by omega)]

end Go.Proofs.YtkaeaiagmihmgaaGreatDoor

namespace Go.Proofs.YtkaeaiagmihmgaaGreatDoor
open Go.RowKit

def greatB (vs : List Vl) : Bool := vs.any (fun v => decide (200 < v.text.length)) || decide (30 < vs.length)
theorem greatB_at {vs : List Vl} {k : Nat} (hk : k < vs.length) (h : 200 < (vs.getD k default).text.length) : greatB vs = true := by
  unfold greatB
  rw [Bool.or_eq_true, List.any_eq_true]
  refine .inl ⟨vs[k], List.getElem_mem hk, ?_⟩
  rw [List.getD_eq_getElem?_getD, List.getElem?_eq_getElem hk] at h
  exact decide_eq_true h
theorem greatB_end {vs : List Vl} (h : ∀ j, j < vs.length → (vs.getD j default).text.length ≤ 200) : greatB vs = decide (30 < vs.length) := by
  unfold greatB
  have : vs.any (fun v => decide (200 < v.text.length)) = false := by
    rw [List.any_eq_false]
    intro v hv
    obtain ⟨i, hi, rfl⟩ := List.getElem_of_mem hv
    have := h i hi
    rw [List.getD_eq_getElem?_getD, List.getElem?_eq_getElem hi] at this
    simp at this ⊢
    omega
  rw [this, Bool.false_or]
theorem ok_at {vs : List Vl} (h : ∀ v ∈ vs, v.Ok) {k : Nat} (hk : k < vs.length) : (vs.getD k default).Ok := by
  rw [List.getD_eq_getElem?_getD, List.getElem?_eq_getElem hk]
  exact h _ (List.getElem_mem hk)
theorem small_of {vs : List Vl} (h : greatB vs = false) : vs.length ≤ 30 ∧ ∀ v ∈ vs, v.text.length ≤ 200 := by
  unfold greatB at h
  rw [Bool.or_eq_false_iff, List.any_eq_false] at h
  obtain ⟨h1, h2⟩ := h
  refine ⟨by simpa using h2, fun v hv => by simpa using h1 v hv⟩

set_option maxRecDepth 100000 in
set_option maxHeartbeats 1600000 in
theorem great_any (A : Option Addr) (n cap : Nat) (vs : List Vl) (w : World) (hv : Vals w A n vs) (hok : ∀ v ∈ vs, v.Ok) (hn : n ≤ maxLen) :
    Calls Tryz.prog 5 #[.slice A n cap] w fun e w' => e = .returned (.bool (greatB vs)) ∧ Below w.heap.size w w' := by
  unfold maxLen at hn
  have hvl := hv.1
  go_enter Tryz.func5, Tryz.ntmps5
  go_wp2
  go_loopw [7] (fun i wr => ∃ k : Nat, k ≤ n ∧ i = .int .i64 k ∧ Hid (∀ j, j < k → (vs.getD j default).text.length ≤ 200) ∧ Below w.heap.size w wr) (fun i _ => n - (intOf i).toNat)
  case atStart => exact ⟨0, by omega, rfl, fun j hj => by omega, Below.refl _ _⟩
  case round =>
    obtain ⟨k, hk, rfl, hsm, hb⟩ := hrel
    by_cases hlt : k < n
    · obtain ⟨b, off, rfl, hbl, hcell⟩ := (hv.below hb).2 (by omega)
      obtain ⟨c0, c1, c2⟩ := hcell k hlt
      have hok1 := ok_at hok (k := k) (by omega)
      have hG := fun h => greatB_at (vs := vs) (k := k) (by omega) h
      have hS : ∀ j, j < k + 1 → j ≠ k → (vs.getD j default).text.length ≤ 200 := fun j hj hne => hsm.out j (by omega)
      have HS := Lib.hid hS
      have HG := Lib.hid hG
      clear hcell hS hG
      generalize hx : vs.getD k default = x at *
      obtain ⟨kk, nn, tt⟩ := x
      have hm : tt.length ≤ 9223372036854775807 := by have := hok1.text; unfold maxLen at this; simp at this; omega
      have HX := Lib.hid hx
      clear hx hok1
      simp only at c0 c1 c2
      have hb2 := fun o => hb.alloc hb.size o
      by_cases hg : 200 < tt.length
      · go_wp2
        go_ret
        exact ⟨ret_b (HG.out hg).symm, hb2 _⟩
      · go_wp2
        refine ⟨⟨k + 1, by omega, by go_num, ?_, hb2 _⟩, by simp [intOf]; omega⟩
        intro j hj
        by_cases hjk : j = k
        · subst hjk
          rw [HX.out]
          exact Nat.le_of_not_lt hg
        · exact HS.out j hj hjk
    · go_wp2
      go_ret
      refine ⟨ret_b ?_, hb⟩
      rw [greatB_end (fun j hj => hsm.out j (by omega)), hvl]
      simp only [decide_eq_decide]
      omega

theorem Vals.one (w : World) (a : Vl) : Vals (w.alloc (.cells #[.int .i64 a.kind, .int .i64 a.num, .string ⟨a.text.toArray⟩] 23)) (some ⟨w.heap.size, 0, none⟩) 1 [a] := by
  have hA := At.fresh w 23 #[.int .i64 a.kind, .int .i64 a.num, .string ⟨a.text.toArray⟩]
  refine ⟨rfl, fun _ => ⟨_, 0, rfl, hA.lt, fun j hj => ?_⟩⟩
  obtain rfl : j = 0 := by omega
  exact ⟨At.cell hA 0, At.cell hA 1, At.cell hA 2⟩
theorem Vals.two (w : World) (a b : Vl) : Vals (w.alloc (.cells #[.int .i64 a.kind, .int .i64 a.num, .string ⟨a.text.toArray⟩, .int .i64 b.kind, .int .i64 b.num, .string ⟨b.text.toArray⟩] 23)) (some ⟨w.heap.size, 0, none⟩) 2 [a, b] := by
  have hA := At.fresh w 23 #[.int .i64 a.kind, .int .i64 a.num, .string ⟨a.text.toArray⟩, .int .i64 b.kind, .int .i64 b.num, .string ⟨b.text.toArray⟩]
  refine ⟨rfl, fun _ => ⟨_, 0, rfl, hA.lt, fun j hj => ?_⟩⟩
  obtain rfl | rfl : j = 0 ∨ j = 1 := by omega
  · exact ⟨At.cell hA 0, At.cell hA 1, At.cell hA 2⟩
  · exact ⟨At.cell hA 3, At.cell hA 4, At.cell hA 5⟩
end Go.Proofs.YtkaeaiagmihmgaaGreatDoor
