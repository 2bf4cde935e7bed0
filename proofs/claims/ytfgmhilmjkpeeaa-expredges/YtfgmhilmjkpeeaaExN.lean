/- Expressions that a law builds: of literals, one operation or two. -/
import Derived.Test.YtfgmhilmjkpeeaaExK
namespace Go.Proofs.Ytfgmhilmjkpeeaa
open Go.RowKit

def litE (v : Vl) : Ex := .mk 1 0 v none 0 0 (fun _ => .nil)
def twoE (op : Int) (A : Option Addr) (cap : Nat) (x y : Ex) : Ex := .mk op 0 nullV A 2 cap (fun j => if j = 0 then x else y)
def oneE (op : Int) (A : Option Addr) (cap : Nat) (x : Ex) : Ex := .mk op 0 nullV A 1 cap (fun _ => x)
theorem inE_lit {w : World} {v : Vl} (h : v.Ok) : InE w (litE v) := by
  unfold litE; rw [InE]
  exact ⟨by unfold I64; decide, by unfold I64; decide, h, by unfold maxLen; omega, fun h => absurd h (by omega)⟩
theorem inE_two {w : World} {op : Int} {g off cap : Nat} {x y : Ex} (ho : I64 op) (hx : InE w x) (hy : InE w y) (hg : g < w.heap.size) (cx : CellsE w g off x) (cy : CellsE w g (off + 6) y) : InE w (twoE op (some ⟨g, off, none⟩) cap x y) := by
  unfold twoE; rw [InE]
  refine ⟨ho, by unfold I64; decide, okV_null, by unfold maxLen; omega, fun _ => ⟨g, off, rfl, hg, fun j hj => ?_⟩⟩
  match j, hj with
  | 0, _ => exact ⟨by simpa using cx, by simpa using hx⟩
  | 1, _ => exact ⟨by simpa using cy, by simpa using hy⟩
theorem inE_one {w : World} {op : Int} {g off cap : Nat} {x : Ex} (ho : I64 op) (hx : InE w x) (hg : g < w.heap.size) (cx : CellsE w g off x) : InE w (oneE op (some ⟨g, off, none⟩) cap x) := by
  unfold oneE; rw [InE]
  refine ⟨ho, by unfold I64; decide, okV_null, by unfold maxLen; omega, fun _ => ⟨g, off, rfl, hg, fun j hj => ?_⟩⟩
  match j, hj with
  | 0, _ => exact ⟨by simpa using cx, hx⟩

theorem left_lit (v : Vl) (n l : Int) : leftE (litE v) n l = if n = 0 ∨ l = 0 then -1 else n - 1 := by unfold litE; rw [leftE_mk]; rfl
theorem left_two (op : Int) (A : Option Addr) (cap : Nat) (x y : Ex) (n l : Int) : leftE (twoE op A cap x y) n l =
    if n = 0 ∨ l = 0 then -1 else if (if n - 1 < 0 then -1 else leftE x (n - 1) (l - 1)) < 0 then -1 else leftE y (if n - 1 < 0 then -1 else leftE x (n - 1) (l - 1)) (l - 1) := by
  unfold twoE; rw [leftE_mk, leftTo_succ, leftTo_succ, leftTo_zero]; rfl
theorem left_one (op : Int) (A : Option Addr) (cap : Nat) (x : Ex) (n l : Int) : leftE (oneE op A cap x) n l = if n = 0 ∨ l = 0 then -1 else if n - 1 < 0 then -1 else leftE x (n - 1) (l - 1) := by
  unfold oneE; rw [leftE_mk, leftTo_succ, leftTo_zero]
theorem val_lit (vs : List Vl) (v : Vl) : valE vs (litE v) = some v := by unfold litE; rw [valE]; rfl
theorem val_two (vs : List Vl) (op : Int) (A : Option Addr) (cap : Nat) (x y : Ex) (h : op = 3 ∨ op = 4 ∨ op = 5 ∨ op = 6 ∨ op = 9 ∨ op = 10) :
    valE vs (twoE op A cap x y) = (valE vs x).bind fun a => (valE vs y).bind fun b => pairV op a b := by
  unfold twoE; rw [valE]
  have h0 : hasOps op 2 = true := by unfold hasOps; rcases h with rfl | rfl | rfl | rfl | rfl | rfl <;> rfl
  rw [h0, if_neg (by simp), if_neg (by omega), if_neg (by omega), if_neg (by omega), if_neg (by omega)]
  rfl
theorem val_not (vs : List Vl) (A : Option Addr) (cap : Nat) (x : Ex) : valE vs (oneE 7 A cap x) = (valE vs x).bind notV := by unfold oneE; rw [valE]; rfl

theorem valX_two (vs : List Vl) (op : Int) (A : Option Addr) (cap : Nat) (x y : Vl) (h : op = 3 ∨ op = 4 ∨ op = 5 ∨ op = 6 ∨ op = 9 ∨ op = 10) : valX vs (twoE op A cap (litE x) (litE y)) = pairV op x y := by
  unfold valX
  rw [left_two, left_lit, left_lit, val_two _ _ _ _ _ _ h, val_lit, val_lit]
  rfl
theorem valX_notTwo (vs : List Vl) (op : Int) (A B : Option Addr) (c d : Nat) (x y : Vl) (h : op = 3 ∨ op = 4 ∨ op = 5 ∨ op = 6 ∨ op = 9 ∨ op = 10) : valX vs (oneE 7 A c (twoE op B d (litE x) (litE y))) = (pairV op x y).bind notV := by
  unfold valX
  rw [left_one, left_two, left_lit, left_lit, val_not, val_two _ _ _ _ _ _ h, val_lit, val_lit]
  rfl
theorem valX_twoNot (vs : List Vl) (op : Int) (A B C : Option Addr) (c d e : Nat) (x y : Vl) (h : op = 3 ∨ op = 4 ∨ op = 5 ∨ op = 6 ∨ op = 9 ∨ op = 10) : valX vs (twoE op A c (oneE 7 B d (litE x)) (oneE 7 C e (litE y))) = (notV x).bind fun a => (notV y).bind fun b => pairV op a b := by
  unfold valX
  rw [left_two, left_one, left_one, left_lit, left_lit, val_two _ _ _ _ _ _ h, val_not, val_not, val_lit, val_lit]
  rfl
end Go.Proofs.Ytfgmhilmjkpeeaa
