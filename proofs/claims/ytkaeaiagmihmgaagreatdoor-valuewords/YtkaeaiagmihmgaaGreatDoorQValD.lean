/- The walk of the reference's Key (layer 3). -/
import Derived.Test.YtkaeaiagmihmgaaGreatDoorQValC
namespace Go.Proofs.YtkaeaiagmihmgaaGreatDoor
open Go.RowKit

theorem cut_more (t : List UInt8) (j : Nat) (h : j < t.length) : t.take (j + 1) = t.take j ++ [t.getD j 0] := by
  rw [List.take_succ_eq_append_getElem h, List.getD_eq_getElem?_getD, List.getElem?_eq_getElem h]; rfl
theorem mid_one (t : List UInt8) (j : Nat) (h : j < t.length) : (t.drop j).take 1 = [t.getD j 0] := by
  rw [List.drop_eq_getElem_cons h, List.getD_eq_getElem?_getD, List.getElem?_eq_getElem h]; rfl

end Go.Proofs.YtkaeaiagmihmgaaGreatDoor
