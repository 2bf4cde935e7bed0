/- strconv's readFloat as plain mathematics: the digits' loop, the exponent. No program is named here. -/
/- strconv's readFloat as plain mathematics: the whole of it. No program is named here. -/
/- readFloat as plain mathematics: how large what it finds may be. No program is named here. -/
import Derived.Test.YtkaeaiagmihmgaaGreatDoorQInfo
namespace Go.Proofs.YtkaeaiagmihmgaaGreatDoor
open Go.RowKit

/-- What the digits' loop keeps. -/
structure Rf where
  m : Nat
  tr : Bool
  us : Bool
  dot : Bool
  dig : Bool
  nd : Nat
  nm : Nat
  dp : Int
def rf0 : Rf := ⟨0, false, false, false, false, 0, 0, 0⟩
/-- A letter in lower case, as strconv has it: bit 5 set. -/
def low5 (c : Nat) : Nat := c ||| 32
/-- A digit of value v is put behind the mantissa, if there is room. -/
def Rf.put (r : Rf) (hex : Bool) (v : Nat) (z : Bool) : Rf :=
  if r.nm < (if hex then 16 else 19) then { r with dig := true, nd := r.nd + 1, m := (r.m * (if hex then 16 else 10) + v) % 18446744073709551616, nm := r.nm + 1 }
  else { r with dig := true, nd := r.nd + 1, tr := r.tr || !z }
/-- One byte; none: the loop is left. -/
def Rf.step (r : Rf) (hex : Bool) (c : Nat) : Option Rf :=
  if c = 95 then some { r with us := true }
  else if c = 46 then (if r.dot then none else some { r with dot := true, dp := r.nd })
  else if 48 ≤ c ∧ c ≤ 57 then (if c = 48 ∧ r.nd = 0 then some { r with dig := true, dp := r.dp - 1 } else some (r.put hex (c - 48) (c == 48)))
  else if hex ∧ 97 ≤ low5 c ∧ low5 c ≤ 102 then some (r.put hex (low5 c - 87) false)
  else none
/-- The loop: what it keeps at its end, and how many bytes it has taken. -/
def rfRun (hex : Bool) : Rf → List UInt8 → Rf × Nat
  | r, [] => (r, 0)
  | r, c :: l => match r.step hex c.toNat with
    | none => (r, 0)
    | some r' => ((rfRun hex r' l).1, (rfRun hex r' l).2 + 1)
theorem rfRun_le (hex : Bool) : ∀ (r : Rf) (l : List UInt8), (rfRun hex r l).2 ≤ l.length
  | _, [] => by simp [rfRun]
  | r, c :: l => by
    unfold rfRun
    split
    · simp
    · rename_i r' _
      have := rfRun_le hex r' l
      simp
      omega
/-- What holds of the loop's state behind k bytes. -/
structure Rf.Ok (r : Rf) (k : Nat) : Prop where
  m : r.m < 18446744073709551616
  nd : r.nd ≤ k
  nm : r.nm ≤ r.nd
  lo : -(k : Int) ≤ r.dp
  hi : r.dp ≤ k
theorem put_ok {r : Rf} {k : Nat} (h : r.Ok k) (hex : Bool) (v : Nat) (z : Bool) : (r.put hex v z).Ok (k + 1) := by
  have h1 := h.m
  have h2 := h.nd
  have h3 := h.nm
  have h4 := h.lo
  have h5 := h.hi
  unfold Rf.put
  generalize (if hex then 16 else 19) = mx
  generalize (if hex then 16 else 10) = bs
  split
  · exact ⟨Nat.mod_lt _ (by decide), by simp; omega, by simp; omega, by simp only; omega, by simp only; omega⟩
  · exact ⟨h1, by simp; omega, by simp; omega, by simp only; omega, by simp only; omega⟩
theorem step_ok {r r' : Rf} {k : Nat} {hex : Bool} {c : Nat} (h : r.Ok k) (hs : r.step hex c = some r') : r'.Ok (k + 1) := by
  have h1 := h.m
  have h2 := h.nd
  have h3 := h.nm
  have h4 := h.lo
  have h5 := h.hi
  unfold Rf.step at hs
  split at hs
  · injection hs with hs; subst hs
    exact ⟨h1, by simp only; omega, h3, by simp only; omega, by simp only; omega⟩
  split at hs
  · split at hs
    · cases hs
    · injection hs with hs; subst hs
      exact ⟨h1, by simp only; omega, h3, by simp only; omega, by simp only; omega⟩
  split at hs
  · split at hs
    · injection hs with hs; subst hs
      exact ⟨h1, by simp only; omega, h3, by simp only; omega, by simp only; omega⟩
    · injection hs with hs; subst hs
      exact put_ok h _ _ _
  split at hs
  · injection hs with hs; subst hs
    exact put_ok h _ _ _
  · cases hs
theorem run_ok (hex : Bool) : ∀ (l : List UInt8) (r : Rf) (k : Nat), r.Ok k → (rfRun hex r l).1.Ok (k + (rfRun hex r l).2)
  | [], r, k, h => by simpa [rfRun] using h
  | c :: l, r, k, h => by
    unfold rfRun
    split
    · simpa using h
    · rename_i r' hs
      have := run_ok hex l r' (k + 1) (step_ok h hs)
      simp only
      rw [show k + ((rfRun hex r' l).2 + 1) = k + 1 + (rfRun hex r' l).2 by omega]
      exact this
theorem rf0_ok : rf0.Ok 0 := ⟨by decide, by decide, by decide, by decide, by decide⟩

/-- The exponent's loop: its value, whether underscores were seen, how many bytes it takes. -/
def exRun : Nat → Bool → List UInt8 → Nat × Bool × Nat
  | e, u, [] => (e, u, 0)
  | e, u, c :: l =>
    if 48 ≤ c.toNat ∧ c.toNat ≤ 57 then (let q := exRun (if e < 10000 then e * 10 + (c.toNat - 48) else e) u l; (q.1, q.2.1, q.2.2 + 1))
    else if c.toNat = 95 then (let q := exRun e true l; (q.1, q.2.1, q.2.2 + 1))
    else (e, u, 0)
theorem exRun_lt : ∀ (l : List UInt8) (e : Nat) (u : Bool), e < 100000 → (exRun e u l).1 < 100000
  | [], e, u, h => by simpa [exRun] using h
  | c :: l, e, u, h => by
    unfold exRun
    split
    · exact exRun_lt l _ _ (by split <;> omega)
    · split
      · exact exRun_lt l _ _ h
      · exact h
theorem exRun_le : ∀ (l : List UInt8) (e : Nat) (u : Bool), (exRun e u l).2.2 ≤ l.length
  | [], e, u => by simp [exRun]
  | c :: l, e, u => by
    unfold exRun
    split
    · have := exRun_le l (if e < 10000 then e * 10 + (c.toNat - 48) else e) u
      simp; omega
    · split
      · have := exRun_le l e true
        simp; omega
      · simp
end Go.Proofs.YtkaeaiagmihmgaaGreatDoor

namespace Go.Proofs.YtkaeaiagmihmgaaGreatDoor
open Go.RowKit

/-- What readFloat finds. -/
structure RfOut where
  m : Nat
  ex : Int
  neg : Bool
  tr : Bool
  hex : Bool
  i : Nat
  us : Bool
def expo (m : Nat) (dp : Int) (nm : Nat) : Int := if m = 0 then 0 else dp - nm
/-- Behind the digits: the exponent. dp and nm: as they stand there. -/
def rfE (s : List UInt8) (neg hex : Bool) (r : Rf) (i : Nat) (dp : Int) (nm : Nat) : Option RfOut :=
  if i < s.length ∧ low5 (s.getD i 0).toNat = (if hex then 112 else 101) then
    (if s.length ≤ i + 1 then none else
      (fun (c : Nat) => (fun (j : Nat) => if s.length ≤ j ∨ (s.getD j 0).toNat < 48 ∨ 57 < (s.getD j 0).toNat then none else
        some ⟨r.m, expo r.m (dp + (exRun 0 r.us (s.drop j)).1 * (if c = 45 then -1 else 1)) nm, neg, r.tr, hex, j + (exRun 0 r.us (s.drop j)).2.2, (exRun 0 r.us (s.drop j)).2.1⟩)
        (if c = 43 ∨ c = 45 then i + 2 else i + 1)) (s.getD (i + 1) 0).toNat)
  else if hex then none else some ⟨r.m, expo r.m dp nm, neg, r.tr, hex, i, r.us⟩
def rfD (s : List UInt8) (neg hex : Bool) (r : Rf) (i : Nat) : Option RfOut :=
  if r.dig then rfE s neg hex r i ((if r.dot then r.dp else r.nd) * (if hex then 4 else 1)) (r.nm * (if hex then 4 else 1)) else none
def rfC (s : List UInt8) (neg hex : Bool) (i : Nat) : Option RfOut := rfD s neg hex (rfRun hex rf0 (s.drop i)).1 (i + (rfRun hex rf0 (s.drop i)).2)
def rfB (s : List UInt8) (neg : Bool) (i : Nat) : Option RfOut :=
  if i + 2 < s.length ∧ (s.getD i 0).toNat = 48 ∧ low5 (s.getD (i + 1) 0).toNat = 120 then rfC s neg true (i + 2) else rfC s neg false i
def rfM (s : List UInt8) : Option RfOut :=
  if s.length = 0 then none else if (s.getD 0 0).toNat = 43 then rfB s false 1 else if (s.getD 0 0).toNat = 45 then rfB s true 1 else rfB s false 0

theorem run_at {s : List UInt8} {i : Nat} {hex : Bool} {r r' : Rf} (hi : i < s.length) (h : r.step hex (s.getD i 0).toNat = some r') :
    rfRun hex r (s.drop i) = ((rfRun hex r' (s.drop (i + 1))).1, (rfRun hex r' (s.drop (i + 1))).2 + 1) := by
  rw [List.drop_eq_getElem_cons hi]
  have e : s.getD i 0 = s[i] := by rw [List.getD_eq_getElem?_getD, List.getElem?_eq_getElem hi]; rfl
  rw [e] at h
  conv => lhs; unfold rfRun
  rw [h]
theorem run_stop {s : List UInt8} {i : Nat} {hex : Bool} {r : Rf} (h : s.length ≤ i ∨ r.step hex (s.getD i 0).toNat = none) : rfRun hex r (s.drop i) = (r, 0) := by
  by_cases hi : i < s.length
  · have h' : r.step hex (s.getD i 0).toNat = none := by rcases h with h | h; omega; exact h
    rw [List.drop_eq_getElem_cons hi]
    have e : s.getD i 0 = s[i] := by rw [List.getD_eq_getElem?_getD, List.getElem?_eq_getElem hi]; rfl
    rw [e] at h'
    unfold rfRun
    rw [h']
  · rw [List.drop_of_length_le (by omega)]
    rfl
/-- The loop stands at i, its state being r. -/
def RfAt (s : List UInt8) (hex : Bool) (i1 : Nat) (r : Rf) (i : Nat) : Prop :=
  i1 ≤ i ∧ i ≤ s.length ∧ r.Ok (i - i1) ∧ (rfRun hex rf0 (s.drop i1)).1 = (rfRun hex r (s.drop i)).1 ∧ i1 + (rfRun hex rf0 (s.drop i1)).2 = i + (rfRun hex r (s.drop i)).2
theorem RfAt.start {s : List UInt8} {hex : Bool} {i1 : Nat} (h : i1 ≤ s.length) : RfAt s hex i1 rf0 i1 := ⟨Nat.le_refl _, h, by rw [Nat.sub_self]; exact rf0_ok, rfl, rfl⟩
theorem RfAt.next {s : List UInt8} {hex : Bool} {i1 i : Nat} {r r' : Rf} (h : RfAt s hex i1 r i) (hi : i < s.length) (hs : r.step hex (s.getD i 0).toNat = some r') : RfAt s hex i1 r' (i + 1) := by
  obtain ⟨h1, h2, h3, h4, h5⟩ := h
  have e := run_at hi hs
  refine ⟨by omega, by omega, ?_, ?_, ?_⟩
  · rw [show i + 1 - i1 = i - i1 + 1 by omega]; exact step_ok h3 hs
  · rw [h4, e]
  · rw [h5, e]; simp only; omega
theorem RfAt.stop {s : List UInt8} {hex : Bool} {i1 i : Nat} {r : Rf} (h : RfAt s hex i1 r i) (hs : s.length ≤ i ∨ r.step hex (s.getD i 0).toNat = none) (neg : Bool) : rfC s neg hex i1 = rfD s neg hex r i := by
  obtain ⟨h1, h2, h3, h4, h5⟩ := h
  have e := run_stop hs
  unfold rfC
  rw [h4, h5, e]
  rfl

section
variable {r : Rf} {hex : Bool} {c : Nat}
theorem step_us (h : c = 95) : r.step hex c = some { r with us := true } := by unfold Rf.step; rw [if_pos h]
theorem step_dot (h : c = 46) (hd : r.dot = false) : r.step hex c = some { r with dot := true, dp := r.nd } := by
  unfold Rf.step; rw [if_neg (by omega), if_pos h, if_neg (by rw [hd]; exact Bool.false_ne_true)]
theorem step_dots (h : c = 46) (hd : r.dot = true) : r.step hex c = none := by unfold Rf.step; rw [if_neg (by omega), if_pos h, if_pos hd]
theorem step_zero (h : c = 48) (hn : r.nd = 0) : r.step hex c = some { r with dig := true, dp := r.dp - 1 } := by
  unfold Rf.step; rw [if_neg (by omega), if_neg (by omega), if_pos (by omega), if_pos ⟨h, hn⟩]
theorem step_dig (h1 : 48 ≤ c) (h2 : c ≤ 57) (hn : ¬ (c = 48 ∧ r.nd = 0)) : r.step hex c = some (r.put hex (c - 48) (c == 48)) := by
  unfold Rf.step; rw [if_neg (by omega), if_neg (by omega), if_pos ⟨h1, h2⟩, if_neg hn]
theorem step_hex (h1 : c ≠ 95) (h2 : c ≠ 46) (h3 : ¬ (48 ≤ c ∧ c ≤ 57)) (h4 : 97 ≤ low5 c) (h5 : low5 c ≤ 102) : r.step true c = some (r.put true (low5 c - 87) false) := by
  unfold Rf.step; rw [if_neg h1, if_neg h2, if_neg h3, if_pos ⟨rfl, h4, h5⟩]
theorem step_none (h1 : c ≠ 95) (h2 : c ≠ 46) (h3 : ¬ (48 ≤ c ∧ c ≤ 57)) (h4 : ¬ (hex = true ∧ 97 ≤ low5 c ∧ low5 c ≤ 102)) : r.step hex c = none := by
  unfold Rf.step; rw [if_neg h1, if_neg h2, if_neg h3, if_neg h4]
theorem put_ten (h : r.nm < 19) (v : Nat) (z : Bool) : r.put false v z = { r with dig := true, nd := r.nd + 1, m := (r.m * 10 + v) % 18446744073709551616, nm := r.nm + 1 } := by
  unfold Rf.put; rw [if_pos (by simpa using h)]; rfl
theorem put_ten_full (h : ¬ r.nm < 19) (v : Nat) (z : Bool) : r.put false v z = { r with dig := true, nd := r.nd + 1, tr := r.tr || !z } := by
  unfold Rf.put; rw [if_neg (by simpa using h)]
theorem put_six (h : r.nm < 16) (v : Nat) (z : Bool) : r.put true v z = { r with dig := true, nd := r.nd + 1, m := (r.m * 16 + v) % 18446744073709551616, nm := r.nm + 1 } := by
  unfold Rf.put; rw [if_pos (by simpa using h)]; rfl
theorem put_six_full (h : ¬ r.nm < 16) (v : Nat) (z : Bool) : r.put true v z = { r with dig := true, nd := r.nd + 1, tr := r.tr || !z } := by
  unfold Rf.put; rw [if_neg (by simpa using h)]
end
end Go.Proofs.YtkaeaiagmihmgaaGreatDoor

namespace Go.Proofs.YtkaeaiagmihmgaaGreatDoor
open Go.RowKit

/-- At most 19 digits, read in base ten. -/
def Ten (r : Rf) : Prop := r.m < 10 ^ r.nm ∧ r.nm ≤ 19
theorem put_tenOk {r : Rf} (h : Ten r) {v : Nat} (hv : v ≤ 9) (z : Bool) : Ten (r.put false v z) := by
  obtain ⟨h1, h2⟩ := h
  by_cases hn : r.nm < 19
  · rw [put_ten hn]
    unfold Ten
    simp only
    refine ⟨Nat.lt_of_le_of_lt (Nat.mod_le _ _) ?_, by omega⟩
    rw [Nat.pow_succ]
    omega
  · rw [put_ten_full hn]
    exact ⟨h1, h2⟩
theorem step_tenOk {r r' : Rf} (h : Ten r) {c : Nat} (hs : r.step false c = some r') : Ten r' := by
  unfold Rf.step at hs
  split at hs
  · injection hs with hs; subst hs; exact h
  split at hs
  · split at hs
    · cases hs
    · injection hs with hs; subst hs; exact h
  split at hs
  · split at hs
    · injection hs with hs; subst hs; exact h
    · injection hs with hs; subst hs; exact put_tenOk h (by omega) _
  split at hs
  · rename_i hx; exact absurd hx.1 (by simp)
  · cases hs
theorem run_tenOk : ∀ (l : List UInt8) (r : Rf), Ten r → Ten (rfRun false r l).1
  | [], r, h => by simpa [rfRun] using h
  | c :: l, r, h => by
    unfold rfRun
    split
    · exact h
    · rename_i r' hs
      exact run_tenOk l r' (step_tenOk h hs)

/-- What bounds what readFloat finds. -/
structure RfOut.Fine (o : RfOut) (n : Nat) : Prop where
  m : o.m < 18446744073709551616
  ten : o.hex = false → o.m < 10000000000000000000
  lo : -1000000 ≤ o.ex
  hi : o.ex ≤ 1000000
  i : o.i ≤ n
theorem expo_fine (m : Nat) {dp : Int} {nm : Nat} (h1 : -500000 ≤ dp) (h2 : dp ≤ 500000) (h3 : nm ≤ 100000) : -1000000 ≤ expo m dp nm ∧ expo m dp nm ≤ 1000000 := by
  unfold expo
  split <;> omega
theorem rfE_fine {s : List UInt8} {neg hex : Bool} {r : Rf} {i : Nat} {dp : Int} {nm : Nat} {o : RfOut} (h : rfE s neg hex r i dp nm = some o) (hm : r.m < 18446744073709551616) (ht : hex = false → r.m < 10000000000000000000)
    (h1 : -100000 ≤ dp) (h2 : dp ≤ 100000) (h3 : nm ≤ 100000) (hi : i ≤ s.length) : o.Fine s.length := by
  unfold rfE at h
  by_cases hA : i < s.length ∧ low5 (s.getD i 0).toNat = (if hex then 112 else 101)
  · rw [if_pos hA] at h
    by_cases hB : s.length ≤ i + 1
    · rw [if_pos hB] at h; cases h
    · rw [if_neg hB] at h
      generalize (s.getD (i + 1) 0).toNat = c at h
      dsimp only at h
      generalize (if c = 43 ∨ c = 45 then i + 2 else i + 1) = j at h
      by_cases hj : s.length ≤ j ∨ (s.getD j 0).toNat < 48 ∨ 57 < (s.getD j 0).toNat
      · rw [if_pos hj] at h; cases h
      · rw [if_neg hj] at h
        injection h with h
        subst h
        have e1 := exRun_lt (s.drop j) 0 r.us (by decide)
        have e2 := exRun_le (s.drop j) 0 r.us
        rw [List.length_drop] at e2
        have e3 := expo_fine r.m (dp := dp + (exRun 0 r.us (s.drop j)).1 * (if c = 45 then -1 else 1)) (nm := nm) (by split <;> omega) (by split <;> omega) h3
        exact ⟨hm, ht, e3.1, e3.2, by simp only; omega⟩
  · rw [if_neg hA] at h
    cases hex with
    | true => cases h
    | false =>
      simp only [Bool.false_eq_true, if_false] at h
      injection h with h
      subst h
      have e3 := expo_fine r.m (dp := dp) (nm := nm) (by omega) (by omega) h3
      exact ⟨hm, ht, e3.1, e3.2, hi⟩
theorem rfC_fine {s : List UInt8} {neg hex : Bool} {i : Nat} {o : RfOut} (h : rfC s neg hex i = some o) (hi : i ≤ s.length) (hl : s.length ≤ 1000) : o.Fine s.length := by
  unfold rfC rfD at h
  have hok := run_ok hex (s.drop i) rf0 0 rf0_ok
  have hle := rfRun_le hex rf0 (s.drop i)
  rw [List.length_drop] at hle
  have hten : hex = false → Ten (rfRun hex rf0 (s.drop i)).1 := fun e => by subst e; exact run_tenOk _ _ ⟨by decide, by decide⟩
  generalize rfRun hex rf0 (s.drop i) = R at *
  obtain ⟨r, k⟩ := R
  simp only at *
  obtain ⟨b1, b2, b3, b4, b5⟩ := hok
  split at h
  · refine rfE_fine h b1 (fun e => ?_) ?_ ?_ ?_ (by omega)
    · obtain ⟨t1, t2⟩ := hten e
      have : 10 ^ r.nm ≤ 10 ^ 19 := Nat.pow_le_pow_right (by decide) t2
      omega
    · split <;> split <;> omega
    · split <;> split <;> omega
    · split <;> omega
  · cases h
theorem rfB_fine {s : List UInt8} {neg : Bool} {i : Nat} {o : RfOut} (h : rfB s neg i = some o) (hi : i ≤ s.length) (hl : s.length ≤ 1000) : o.Fine s.length := by
  unfold rfB at h
  split at h
  · exact rfC_fine h (by omega) hl
  · exact rfC_fine h hi hl
theorem rfM_fine {s : List UInt8} {o : RfOut} (h : rfM s = some o) (hl : s.length ≤ 1000) : o.Fine s.length := by
  unfold rfM at h
  split at h
  · cases h
  · split at h
    · exact rfB_fine h (by omega) hl
    · split at h
      · exact rfB_fine h (by omega) hl
      · exact rfB_fine h (by omega) hl
end Go.Proofs.YtkaeaiagmihmgaaGreatDoor
