/- Kind, its errors told: the walks of kindOf, finish and Kind again, and of the reference's Kind. -/
import Derived.Test.YteehccklnidofaaQExI
import Derived.Test.YteehccklnidofaaQExJ
namespace Go.Proofs.Yteehccklnidofaa
open Go.RowKit

def toQ : Option Int → Except Int Int
  | some k => .ok k
  | none => .error 9
def colQ (cols : List Int) (c : Int) : Except Int Int := if 0 ≤ c ∧ c < cols.length then .ok (cols.getD c.toNat 0) else .error 4
/-- An expression's kind, or the error of it. -/
def kindQ (cols : List Int) : Ex → Except Int Int
  | .nil => .error 4
  | .mk op col v _ n _ arg =>
    if hasOps op n = false then .error 4
    else if unused op col v = false then .error 4
    else if op = 1 then (if goodV v = true then .ok v.kind else .error 4)
    else if op = 2 then colQ cols col
    else if op = 7 then (kindQ cols (arg 0)).bind fun k => if truthK k = true then .ok 1 else .error 9
    else if op = 8 then (kindQ cols (arg 0)).map fun _ => 1
    else (kindQ cols (arg 0)).bind fun a => (kindQ cols (arg 1)).bind fun b => toQ (pairK op a b)
/-- What Kind hands back. -/
def EndQE (r : Except Int Int) (e : Ending) : Prop := match r with | .ok k => e = .returned (.tuple #[.int .i64 k, .int .i64 0]) | .error z => e = .returned (.tuple #[.int .i64 0, .int .i64 z])
def kindL (ks : List Int) (e : Ex) : Except Int Int := if leftE e 24 8 < 0 then .error 3 else kindQ ks e
theorem ex_bind (a : Int) (f : Int → Except Int Int) : (Except.ok a : Except Int Int).bind f = f a := rfl
theorem ex_map (a : Int) (f : Int → Int) : (Except.ok a : Except Int Int).map f = .ok (f a) := rfl

end Go.Proofs.Yteehccklnidofaa
