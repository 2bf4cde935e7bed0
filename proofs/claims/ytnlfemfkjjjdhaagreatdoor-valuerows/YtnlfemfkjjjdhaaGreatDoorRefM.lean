/- Plain mathematics: the reference's way to read a number comes to what takeGroups comes to. -/
import Derived.Test.YtnlfemfkjjjdhaaGreatDoorPackM
import Derived.Test.YtnlfemfkjjjdhaaGreatDoorPackC
namespace Go.Proofs.YtnlfemfkjjjdhaaGreatDoor

/-- What seven bits a byte spell, least group first. -/
def hval : List UInt8 → Nat
  | [] => 0
  | b :: r => b.toNat % 128 + 128 * hval r

theorem grp_run : ∀ (pre : List UInt8) (i acc : Nat) (rest : List UInt8), (∀ b ∈ pre, 128 ≤ b.toNat) → i + pre.length ≤ 9 → grp i acc (pre ++ rest) = grp (i + pre.length) (acc + hval pre * 2 ^ (7 * i)) rest
  | [], i, acc, rest, _, _ => by simp [hval]
  | b :: r, i, acc, rest, h, hl => by
    have hb := h b (by simp)
    rw [List.length_cons] at hl
    rw [List.cons_append, grp_go i acc b _ (by omega) (by omega), grp_run r (i + 1) _ rest (fun x hx => h x (by simp [hx])) (by omega), pow_step i, List.length_cons]
    have e : acc + b.toNat % 128 * 2 ^ (7 * i) + hval r * (128 * 2 ^ (7 * i)) = acc + hval (b :: r) * 2 ^ (7 * i) := by
      simp only [hval, Nat.add_mul]
      rw [Nat.mul_comm 128 (hval r), Nat.mul_assoc]
      omega
    rw [e, show i + 1 + r.length = i + (r.length + 1) by omega]
theorem grp_over : ∀ (pre : List UInt8) (i acc : Nat) (rest : List UInt8), (∀ b ∈ pre, 128 ≤ b.toNat) → i ≤ 9 → 9 < i + pre.length → grp i acc (pre ++ rest) = none
  | [], i, acc, rest, _, hi, hl => by simp at hl; omega
  | b :: r, i, acc, rest, h, hi, hl => by
    have hb := h b (by simp)
    rw [List.length_cons] at hl
    by_cases h9 : i = 9
    · subst h9; rw [List.cons_append, grp_bad9 _ _ _ (by omega)]
    · rw [List.cons_append, grp_go i acc b _ (by omega) (by omega)]
      exact grp_over r (i + 1) _ rest (fun x hx => h x (by simp [hx])) (by omega) (by omega)

theorem hval_snoc : ∀ (pre : List UInt8) (b : UInt8), hval (pre ++ [b]) = hval pre + b.toNat % 128 * 2 ^ (7 * pre.length)
  | [], b => by simp [hval]
  | a :: r, b => by
    rw [List.cons_append, hval, hval_snoc r b, hval, List.length_cons, pow_step]
    rw [Nat.mul_add, ← Nat.mul_assoc, Nat.mul_comm 128 (b.toNat % 128), Nat.mul_assoc]
    omega

/-- The number of leading bytes that say 'more'. -/
def lead : List UInt8 → Nat
  | [] => 0
  | b :: r => if 128 ≤ b.toNat then lead r + 1 else 0
theorem lead_le : ∀ r : List UInt8, lead r ≤ r.length
  | [] => by simp [lead]
  | b :: r => by have := lead_le r; simp only [lead, List.length_cons]; split <;> omega
theorem lead_all : ∀ (r : List UInt8), ∀ b ∈ r.take (lead r), 128 ≤ b.toNat
  | [], b, h => by simp [lead] at h
  | a :: r, b, h => by
    unfold lead at h
    split at h
    · simp only [List.take_succ_cons, List.mem_cons] at h
      rcases h with rfl | h
      · assumption
      · exact lead_all r b h
    · simp at h
theorem lead_stop : ∀ (r : List UInt8) (h : lead r < r.length), r[lead r].toNat < 128
  | [], h => by simp at h
  | a :: r, h => by
    by_cases ha : 128 ≤ a.toNat
    · have e : lead (a :: r) = lead r + 1 := by simp [lead, ha]
      have := lead_stop r (by simp [e] at h; exact h)
      simpa [e] using this
    · have e : lead (a :: r) = 0 := by simp [lead, ha]
      simp only [e, List.getElem_cons_zero]; omega
theorem lead_at (r : List UInt8) (k : Nat) (hk : k < r.length) (h : ∀ j (hj : j < k), 128 ≤ (r[j]'(by omega)).toNat) (hs : r[k].toNat < 128) : lead r = k := by
  induction r generalizing k with
  | nil => simp at hk
  | cons a r ih =>
    cases k with
    | zero => simp at hs; simp [lead]; omega
    | succ k =>
      have ha := h 0 (by omega)
      simp only [List.getElem_cons_zero] at ha
      have := ih k (by simpa using hk) (fun j hj => by have := h (j + 1) (by omega); simpa using this) (by simpa using hs)
      simp [lead, ha, this]
theorem lead_end (r : List UInt8) (h : ∀ j (hj : j < r.length), 128 ≤ r[j].toNat) : lead r = r.length := by
  induction r with
  | nil => rfl
  | cons a r ih =>
    have ha := h 0 (by simp)
    simp only [List.getElem_cons_zero] at ha
    have := ih (fun j hj => by have := h (j + 1) (by simpa using hj); simpa using this)
    simp [lead, ha, this]

theorem lead_atD (r : List UInt8) (k : Nat) (hk : k < r.length) (h : ∀ j, j < k → 128 ≤ (r.getD j 0).toNat) (hs : (r.getD k 0).toNat < 128) : lead r = k := by
  refine lead_at r k hk (fun j hj => ?_) ?_
  · have := h j hj
    rwa [List.getD_eq_getElem?_getD, List.getElem?_eq_getElem (by omega)] at this
  · rwa [List.getD_eq_getElem?_getD, List.getElem?_eq_getElem hk] at hs
theorem lead_endD (r : List UInt8) (h : ∀ j, j < r.length → 128 ≤ (r.getD j 0).toNat) : lead r = r.length := by
  refine lead_end r (fun j hj => ?_)
  have := h j hj
  rwa [List.getD_eq_getElem?_getD, List.getElem?_eq_getElem hj] at this
theorem getD_drop (l : List UInt8) (p j : Nat) : (l.drop p).getD j 0 = l.getD (p + j) 0 := by
  rw [List.getD_eq_getElem?_getD, List.getD_eq_getElem?_getD, List.getElem?_drop]
theorem hval_drop (r : List UInt8) (q : Nat) (h : q < r.length) : hval (r.drop q) = (r.getD q 0).toNat % 128 + 128 * hval (r.drop (q + 1)) := by
  rw [List.drop_eq_getElem_cons h, hval, List.getD_eq_getElem?_getD, List.getElem?_eq_getElem h]
  rfl
theorem grp_short (r : List UInt8) (h : lead r = r.length) : grp 0 0 r = none := by
  have ha := lead_all r
  rw [h, List.take_of_length_le (Nat.le_refl _)] at ha
  by_cases h9 : r.length ≤ 9
  · have := grp_run r 0 0 [] ha (by omega)
    rw [List.append_nil] at this
    rw [this, grp_nil]
  · have := grp_over r 0 0 [] ha (by omega) (by omega)
    rwa [List.append_nil] at this
theorem grp_long (r : List UInt8) (h : 9 < lead r) : grp 0 0 r = none := by
  have := grp_over (r.take (lead r)) 0 0 (r.drop (lead r)) (lead_all r) (by omega) (by rw [List.length_take]; have := lead_le r; omega)
  rwa [List.take_append_drop] at this
theorem take_lead (r : List UInt8) (h : lead r < r.length) : r.take (lead r + 1) = r.take (lead r) ++ [r[lead r]] := List.take_succ_eq_append_getElem h
theorem grp_badk (k acc : Nat) (b : UInt8) (r : List UInt8) (hk : k = 9) (h : 1 < b.toNat) : grp k acc (b :: r) = none := by subst hk; exact grp_bad9 acc b r h
theorem grp_at (r : List UInt8) (h : lead r < r.length) (h9 : lead r ≤ 9) :
    grp 0 0 r = if lead r = 9 ∧ 1 < r[lead r].toNat ∨ r[lead r].toNat = 0 ∧ 0 < lead r then none else some (hval (r.take (lead r + 1)), lead r + 1) := by
  have hlen : (r.take (lead r)).length = lead r := by rw [List.length_take]; omega
  have e := grp_run (r.take (lead r)) 0 0 (r.drop (lead r)) (lead_all r) (by omega)
  rw [List.take_append_drop, hlen, List.drop_eq_getElem_cons h] at e
  have hs := lead_stop r h
  rw [take_lead r h, hval_snoc, hlen]
  simp only [Nat.zero_add, Nat.mul_zero, Nat.pow_zero, Nat.mul_one] at e
  rw [e]
  by_cases c1 : lead r = 9 ∧ 1 < r[lead r].toNat
  · rw [if_pos (.inl c1)]
    exact grp_badk _ _ _ _ c1.1 c1.2
  by_cases c2 : r[lead r].toNat = 0 ∧ 0 < lead r
  · rw [if_pos (.inr c2), grp_zero _ _ _ _ (by omega) c2.1 c2.2]
  · rw [if_neg (by rintro (h1 | h1); exact c1 h1; exact c2 h1), grp_last _ _ _ _ (by omega) (by omega) hs c2]
theorem grp_atD (r : List UInt8) (k b : Nat) (hk : k < r.length) (hl : lead r = k) (hb : (r.getD k 0).toNat = b) (h9 : k ≤ 9) :
    grp 0 0 r = if k = 9 ∧ 1 < b ∨ b = 0 ∧ 0 < k then none else some (hval (r.take (k + 1)), k + 1) := by
  subst hl
  have := grp_at r hk h9
  rw [List.getD_eq_getElem?_getD, List.getElem?_eq_getElem hk] at hb
  rw [this]
  simp only [Option.getD_some] at hb
  rw [hb]
theorem hval_step (l : List UInt8) (p k q acc d : Nat) (hk : k < (l.drop p).length) (hq : q ≤ k) (hd : (l.getD (p + q) 0).toNat = d)
    (ha : acc = hval (((l.drop p).take (k + 1)).drop (q + 1)) % 18446744073709551616) :
    (acc * 128 + d % 128) % 18446744073709551616 = hval (((l.drop p).take (k + 1)).drop q) % 18446744073709551616 := by
  have hlen : ((l.drop p).take (k + 1)).length = k + 1 := by rw [List.length_take]; omega
  have e1 : (((l.drop p).take (k + 1)).getD q 0).toNat = d := by
    rw [← hd, ← getD_drop, List.getD_eq_getElem?_getD, List.getElem?_take, if_pos (by omega), ← List.getD_eq_getElem?_getD]
  rw [hval_drop _ q (by omega), e1]
  omega
end Go.Proofs.YtnlfemfkjjjdhaaGreatDoor
