/- The walks of package value's noKey, Int, cutNumber. -/
import Derived.Test.YtnlfemfkjjjdhaaDoorValE
namespace Go.Proofs.YtnlfemfkjjjdhaaDoor
open Go.RowKit

def cutRes : Option (Vl × List UInt8) → Value
  | some (v, r) => .tuple #[v.val, .string ⟨r.toArray⟩, .int .i64 0]
  | none => .tuple #[(Vl.mk 0 0 []).val, .string ⟨#[]⟩, .int .i64 4]
theorem cutRes_none : cutRes none = .tuple #[.agg #[.int .i64 0, .int .i64 0, .string ⟨#[]⟩], .string ⟨#[]⟩, .int .i64 4] := rfl
theorem cutRes_some (k n : Int) (t r : List UInt8) : cutRes (some (⟨k, n, t⟩, r)) = .tuple #[.agg #[.int .i64 k, .int .i64 n, .string ⟨t.toArray⟩], .string ⟨r.toArray⟩, .int .i64 0] := rfl

set_option maxHeartbeats 400000 in
theorem vint_any (n : Int) (w : World) :
    Calls Tryd.prog 8 #[.int .i64 n] w fun e w' => e = .returned (Vl.mk 1 n []).val ∧ Below w.heap.size w w' := by
  go_enter Tryd.func8, Tryd.ntmps8
  go_wp2
  refine bodyPost_ret (v := (Vl.mk 1 n []).val) (by simp [results, Tryd.results8, go_sem, Vl.val]) rfl ⟨rfl, below_box _ _⟩

theorem below_put3 {B : Nat} {w w1 : World} (h : Below B w w1) (x y z : Value) : Below B w (((w1.setCell ⟨B, 0, none⟩ x).setCell ⟨B, 1, none⟩ y).setCell ⟨B, 2, none⟩ z) :=
  ((h.setCell (p := ⟨B, 0, none⟩) (Nat.le_refl _) x).setCell (p := ⟨B, 1, none⟩) (Nat.le_refl _) y).setCell (p := ⟨B, 2, none⟩) (Nat.le_refl _) z
theorem or_byte (acc b : Nat) (ha : acc < 72057594037927936) (hb : b < 256) : bits .or .u64 (IntKind.u64.wrap ((acc : Int) * 256)) (IntKind.u64.wrap (b : Int)) = ((acc * 256 + b : Nat) : Int) := by
  have e2 : IntKind.u64.wrap (b : Int) = (b : Int) := by rw [IntKind.wrap_u64]; omega
  rw [e2]
  have e : IntKind.u64.wrap ((acc : Int) * 256) = ((acc * 256 : Nat) : Int) := by rw [IntKind.wrap_u64]; omega
  rw [e, u64_or _ _ (by omega) (by omega) (by omega) (by omega)]
  simp only [Int.toNat_natCast]
  rw [Nat.mul_comm, nat_join 8 _ _ (by omega) (by omega)]

end Go.Proofs.YtnlfemfkjjjdhaaDoor
