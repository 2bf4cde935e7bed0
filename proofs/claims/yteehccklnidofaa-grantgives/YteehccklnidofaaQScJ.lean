/- The walk of Good. -/
import Derived.Test.YteehccklnidofaaQScI
namespace Go.Proofs.Yteehccklnidofaa
open Go.RowKit

/-- The first error of n. -/
def firstE (f : Nat → Int) : Nat → Int
  | 0 => 0
  | n + 1 => if firstE f n = 0 then f n else firstE f n
theorem firstE_more {f : Nat → Int} {k : Nat} (h : firstE f k ≠ 0) : ∀ d, firstE f (k + d) = firstE f k
  | 0 => rfl
  | d + 1 => by rw [← Nat.add_assoc, firstE, firstE_more h d, if_neg h]
theorem firstE_hit {f : Nat → Int} {k n : Nat} (h : firstE f k = 0) (hk : k < n) (e : f k ≠ 0) : firstE f n = f k := by
  have h1 : firstE f (k + 1) = f k := by rw [firstE, if_pos h]
  have h2 := firstE_more (f := f) (k := k + 1) (by rw [h1]; exact e) (n - (k + 1))
  rw [show k + 1 + (n - (k + 1)) = n by omega] at h2
  rw [h2, h1]
theorem firstE_next {f : Nat → Int} {k : Nat} (h : firstE f k = 0) (e : f k = 0) : firstE f (k + 1) = 0 := by rw [firstE, if_pos h, e]
def goodE (t : Tb) (s : Sc) : Int :=
  if nameN t.name = false then 4 else if roleB t.owner = false then 4 else if t.cn = 0 then 4
  else if 6 < t.cn then 3 else if 4 < t.en then 3
  else if firstE (colE t s) t.cn = 0 then firstE (fun j => chkE (t.cols.map (·.kind)) (t.chk j)) t.en else firstE (colE t s) t.cn

end Go.Proofs.Yteehccklnidofaa
