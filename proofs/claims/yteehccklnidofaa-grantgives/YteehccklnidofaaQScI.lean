/- The walks of goodColumn and goodCheck. -/
import Derived.Test.YteehccklnidofaaQScH
import Derived.Test.YteehccklnidofaaQScK
namespace Go.Proofs.Yteehccklnidofaa
open Go.RowKit

def colN (t : Tb) (j : Nat) : List UInt8 := (t.cols.getD j default).name
/-- What is wrong with a column. -/
def colE (t : Tb) (s : Sc) (i : Nat) : Int :=
  if firstI (fun j => (t.cols.getD j default).name) (t.cols.getD i default).name t.cn < (i : Int) then 4
  else if formB (t.cols.getD i default) = false then 4
  else if i = 0 ∧ keyB (t.cols.getD i default) = false then 4
  else if (t.cols.getD i default).ref = [] then 0 else refE (t.cols.getD i default) t s
/-- What is wrong with a check. -/
def chkE (ks : List Int) (x : Ex) : Int := match kindL ks x with | .error r => r | .ok k => if k = 1 ∨ k = 0 then 0 else 9
theorem kindQ_err (ks : List Int) : ∀ (e : Ex) (r : Int), kindQ ks e = .error r → r = 4 ∨ r = 9
  | .nil, r, h => by cases h; exact .inl rfl
  | .mk op col v A n cap arg, r, h => by
    rw [kindQ] at h
    have hb : ∀ (x : Except Int Int) (f : Int → Except Int Int), x.bind f = .error r → x = .error r ∨ ∃ k, f k = .error r := fun x f hx => by
      cases x with
      | error z => exact .inl hx
      | ok k => exact .inr ⟨k, hx⟩
    have hq : ∀ o, toQ o = .error r → r = 9 := fun o ho => by cases o <;> cases ho; rfl
    repeat' split at h
    · cases h; exact .inl rfl
    · cases h; exact .inl rfl
    · cases h
    · cases h; exact .inl rfl
    · unfold colQ at h
      split at h <;> cases h
      exact .inl rfl
    · rcases hb _ _ h with h1 | ⟨k, h1⟩
      · exact kindQ_err ks (arg 0) r h1
      · split at h1 <;> cases h1
        exact .inr rfl
    · cases hk : kindQ ks (arg 0) with
      | error z => rw [hk] at h; cases h; exact kindQ_err ks (arg 0) _ hk
      | ok k => rw [hk] at h; cases h
    · rcases hb _ _ h with h1 | ⟨k, h1⟩
      · exact kindQ_err ks (arg 0) r h1
      · rcases hb _ _ h1 with h2 | ⟨k2, h2⟩
        · exact kindQ_err ks (arg 1) r h2
        · exact .inr (hq _ h2)
theorem kindL_err {ks : List Int} {e : Ex} {r : Int} (h : kindL ks e = .error r) : r ≠ 0 := by
  unfold kindL at h
  split at h
  · cases h; decide
  · have := kindQ_err ks e r h; omega
theorem RowC.kinds {w : World} {A : Option Addr} {n : Nat} {cs : List Co} (h : RowC w A n cs) : Cols w A n (cs.map (·.kind)) := by
  refine ⟨by simpa using h.1, fun hn => ?_⟩
  obtain ⟨b, off, e1, e2, e3⟩ := h.2.2 hn
  refine ⟨b, off, e1, e2, fun j hj => ?_⟩
  have hl : j < cs.length := by rw [h.1]; exact hj
  have := (e3 j hj).2.1
  rw [this]
  simp [List.getElem?_eq_getElem hl]

end Go.Proofs.Yteehccklnidofaa
