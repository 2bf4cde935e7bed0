/- The walks of the deferred functions that recover, of finish, Kind and Eval. -/
import Derived.Test.YteehccklnidofaaQExI
import Derived.Test.YteehccklnidofaaQExH
import Derived.Defers
import Derived.Recover
namespace Go.Proofs.Yteehccklnidofaa
open Go.RowKit
/-- What Kind hands back. -/
def EndKE (r : Option Int) (e : Ending) : Prop := match r with | some k => e = .returned (.tuple #[.int .i64 k, .int .i64 0]) | none => ∃ z : Int, z ≠ 0 ∧ e = .returned (.tuple #[.int .i64 0, .int .i64 z])
/-- What Eval hands back. -/
def EndVE (r : Option Vl) (e : Ending) : Prop := match r with | some k => e = .returned (.tuple #[k.val, .int .i64 0]) | none => ∃ z : Int, z ≠ 0 ∧ e = .returned (.tuple #[nullV.val, .int .i64 z])
def kindX (ks : List Int) (e : Ex) : Option Int := if leftE e 24 8 < 0 then none else kindE ks e
def valX (vs : List Vl) (e : Ex) : Option Vl := if leftE e 24 8 < 0 then none else valE vs e

theorem cellsE_fresh (e : Ex) (w : World) : CellsE (w.alloc (.cells #[.int .i64 e.op, .int .i64 e.col, .int .i64 e.v.kind, .int .i64 e.v.num, .string ⟨e.v.text.toArray⟩, .slice e.A e.n e.cap] 61)) w.heap.size 0 e := by
  obtain ⟨c0, c1, c2, c3, c4, c5⟩ := (At.fresh w 61 #[.int .i64 e.op, .int .i64 e.col, .int .i64 e.v.kind, .int .i64 e.v.num, .string ⟨e.v.text.toArray⟩, .slice e.A e.n e.cap]).six
  exact ⟨c0, by rw [Nat.zero_add]; exact c1, by rw [Nat.zero_add]; exact c2, by rw [Nat.zero_add]; exact c3, by rw [Nat.zero_add]; exact c4, by rw [Nat.zero_add]; exact c5⟩

end Go.Proofs.Yteehccklnidofaa
