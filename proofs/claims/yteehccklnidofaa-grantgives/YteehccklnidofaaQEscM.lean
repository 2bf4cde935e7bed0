/- Plain mathematics: to replace each byte 0 by the bytes 0, 255 is to mark a text's zeros. No program is named here. -/
import Derived.Test.YteehccklnidofaaQKeyM
import Derived.Lib.ReplaceLaws
namespace Go.Proofs.Yteehccklnidofaa

theorem index_zero (l : List UInt8) : Lib.index (0 :: l) [0] = 0 := by
  rw [Lib.index, if_pos (by simp [List.isPrefixOf])]
theorem index_step {b : UInt8} (h : b ≠ 0) (l : List UInt8) : Lib.index (b :: l) [0] = if Lib.index l [0] == -1 then -1 else Lib.index l [0] + 1 := by
  have : ([0] : List UInt8).isPrefixOf (b :: l) = false := by simp [List.isPrefixOf, Ne.symm h]
  rw [Lib.index, this]
  rfl
theorem index_cases (l : List UInt8) : Lib.index l [0] = -1 ∨ ∃ i : Nat, Lib.index l [0] = i := by
  have := Lib.index_ge l [0]
  rcases Int.lt_or_le (Lib.index l [0]) 0 with h | h
  · exact .inl (by omega)
  · exact .inr ⟨(Lib.index l [0]).toNat, by omega⟩
theorem count_skip {b : UInt8} (h : b ≠ 0) (l : List UInt8) : Lib.count (b :: l) [0] = Lib.count l [0] := by
  rcases index_cases l with e | ⟨i, e⟩
  · have e2 : Lib.index (b :: l) [0] = -1 := by rw [index_step h, e]; rfl
    rw [Lib.count_miss e2, Lib.count_miss e]
  · have e2 : Lib.index (b :: l) [0] = ((i + 1 : Nat) : Int) := by
      rw [index_step h, e, if_neg (by simp)]; rfl
    rw [Lib.count_hit (by simp) e2, Lib.count_hit (by simp) e]
    rfl
theorem replaceK_skip {b : UInt8} (h : b ≠ 0) (new : List UInt8) (k : Nat) (l : List UInt8) : Lib.replaceK [0] new k (b :: l) = b :: Lib.replaceK [0] new k l := by
  cases k with
  | zero => rfl
  | succ k =>
    rcases index_cases l with e | ⟨i, e⟩
    · have e2 : Lib.index (b :: l) [0] = -1 := by rw [index_step h, e]; rfl
      rw [Lib.replaceK, Lib.replaceK, e, e2]; rfl
    · have e2 : Lib.index (b :: l) [0] = ((i + 1 : Nat) : Int) := by
        rw [index_step h, e, if_neg (by simp)]; rfl
      rw [Lib.replaceK_hit _ _ _ _ _ e, Lib.replaceK_hit _ _ _ _ _ e2]
      simp
theorem replaceK_esc : ∀ l : List UInt8, Lib.replaceK [0] [0, 255] (Lib.count l [0]) l = esc l
  | [] => by
    rw [Lib.count_miss (by rfl)]; rfl
  | b :: l => by
    by_cases h : b = 0
    · subst h
      have e := index_zero l
      rw [Lib.count_hit (by simp) (i := 0) e, Nat.add_comm, Lib.replaceK_hit _ _ _ _ 0 e, esc_zero]
      simp [replaceK_esc l]
    · rw [count_skip h, replaceK_skip h, replaceK_esc l, esc_else h]
theorem replace_esc (l : List UInt8) : Lib.replaceK [0] [0, 255] (Lib.replaceNum l [0] (-1)) l = esc l := by
  unfold Lib.replaceNum
  rw [if_pos (.inl (by decide))]
  exact replaceK_esc l
theorem esc_none {l : List UInt8} (h : Lib.count l [0] = 0) : esc l = l := by
  rw [← replaceK_esc l, h]; rfl
theorem esc_snoc : ∀ (x : List UInt8) (b : UInt8), esc (x ++ [b]) = esc x ++ (if b = 0 then [0, 255] else [b])
  | [], b => by by_cases h : b = 0 <;> simp [esc, h]
  | a :: x, b => by
    rw [List.cons_append]
    by_cases h : a = 0
    · subst h; rw [esc_zero, esc_zero, esc_snoc x b]; rfl
    · rw [esc_else h, esc_else h, esc_snoc x b]; rfl
end Go.Proofs.Yteehccklnidofaa
