/- What readFloat's model finds in a float's text. No program is named here. -/
/- What readFloat's model finds in a float's text: its digits and where the point stands. No program is named here. -/
/- A float's text is read as its digits and where their point stands. No program is named here. -/
/- A float's text is read as a decimal that lies in the float's interval. No program is named here. -/
import Derived.Test.YtkaeaiagmihmgaaGreatDoorQFyL
import Derived.Test.YtkaeaiagmihmgaaGreatDoorQFxH
import Derived.Test.YtkaeaiagmihmgaaGreatDoorQFxJ
import Derived.Test.YtkaeaiagmihmgaaGreatDoorQFyD
namespace Go.Proofs.YtkaeaiagmihmgaaGreatDoor
open Go.RowKit Go.Sort

/-- All bytes are taken. -/
def stepAll (hex : Bool) : Rf → List UInt8 → Option Rf
  | r, [] => some r
  | r, c :: l => match r.step hex c.toNat with
    | none => none
    | some r' => stepAll hex r' l
theorem stepAll_step {hex : Bool} {r q : Rf} {c : UInt8} {l : List UInt8} (h : r.step hex c.toNat = some q) : stepAll hex r (c :: l) = stepAll hex q l := by
  show (match r.step hex c.toNat with | none => none | some r' => stepAll hex r' l) = _
  rw [h]
theorem stepAll_inv {hex : Bool} {r r' : Rf} {c : UInt8} {l : List UInt8} (h : stepAll hex r (c :: l) = some r') : ∃ q, r.step hex c.toNat = some q ∧ stepAll hex q l = some r' := by
  have h1 : (match r.step hex c.toNat with | none => none | some r' => stepAll hex r' l) = some r' := h
  split at h1
  · cases h1
  · rename_i q hq
    exact ⟨q, hq, h1⟩
theorem stepAll_append {hex : Bool} : ∀ {xs ys : List UInt8} {r r' : Rf}, stepAll hex r xs = some r' → stepAll hex r (xs ++ ys) = stepAll hex r' ys
  | [], ys, r, r', h => by injection h with h; subst h; rfl
  | c :: xs, ys, r, r', h => by
    obtain ⟨q, hq, hh⟩ := stepAll_inv h
    rw [List.cons_append, stepAll_step hq]
    exact stepAll_append hh
theorem run_all {hex : Bool} : ∀ {xs ys : List UInt8} {r r' : Rf}, stepAll hex r xs = some r' → rfRun hex r (xs ++ ys) = ((rfRun hex r' ys).1, xs.length + (rfRun hex r' ys).2)
  | [], ys, r, r', h => by injection h with h; subst h; simp
  | c :: xs, ys, r, r', h => by
    obtain ⟨q, hq, hh⟩ := stepAll_inv h
    rw [List.cons_append]
    conv => lhs; unfold rfRun
    rw [hq]
    simp only
    rw [run_all hh]
    simp only [List.length_cons, Prod.mk.injEq, true_and]
    omega

def isDig (c : UInt8) : Prop := 48 ≤ c.toNat ∧ c.toNat ≤ 57
/-- The number that digits spell, behind v. -/
def valD (v : Nat) (ds : List UInt8) : Nat := ds.foldl (fun a c => a * 10 + (c.toNat - 48)) v
theorem valD_cons (v : Nat) (c : UInt8) (ds : List UInt8) : valD v (c :: ds) = valD (v * 10 + (c.toNat - 48)) ds := by unfold valD; rw [List.foldl_cons]
theorem valD_append (v : Nat) (xs ys : List UInt8) : valD v (xs ++ ys) = valD (valD v xs) ys := by unfold valD; rw [List.foldl_append]
theorem valD_lt : ∀ (ds : List UInt8) (v k : Nat), (∀ c ∈ ds, isDig c) → v < 10 ^ k → valD v ds < 10 ^ (k + ds.length)
  | [], v, k, _, h => by simpa [valD] using h
  | c :: ds, v, k, hd, h => by
    have hc := hd c (by simp)
    unfold isDig at hc
    rw [valD_cons, List.length_cons, show k + (ds.length + 1) = k + 1 + ds.length by omega]
    refine valD_lt ds _ (k + 1) (fun x hx => hd x (by simp [hx])) ?_
    rw [Nat.pow_succ]
    omega
theorem valD_zeros (v : Nat) : ∀ k : Nat, valD v (List.replicate k 48) = v * 10 ^ k
  | 0 => by simp [valD]
  | k + 1 => by
    rw [List.replicate_succ, valD_cons, valD_zeros _ k, Nat.pow_succ]
    simp only [show (48 : UInt8).toNat - 48 = 0 from rfl, Nat.add_zero]
    rw [Nat.mul_assoc, Nat.mul_comm 10]

/-- Significant digits. -/
theorem all_digits : ∀ (ds : List UInt8) (r : Rf), (∀ c ∈ ds, isDig c) → r.nd = r.nm → r.nm + ds.length ≤ 19 → r.m < 10 ^ r.nm → (0 < r.nd ∨ ds = [] ∨ (ds.getD 0 0).toNat ≠ 48) →
    stepAll false r ds = some { r with m := valD r.m ds, dig := r.dig || !ds.isEmpty, nd := r.nd + ds.length, nm := r.nm + ds.length }
  | [], r, _, _, _, _, _ => by simp [stepAll, valD]
  | c :: ds, r, hd, he, hl, hm, hz => by
    have hc := hd c (by simp)
    unfold isDig at hc
    have hlen : r.nm + ds.length + 1 ≤ 19 := by rw [List.length_cons] at hl; omega
    have hs := step_dig (r := r) (hex := false) hc.1 hc.2 (by
      rintro ⟨h1, h2⟩
      rcases hz with h | h | h
      · omega
      · cases h
      · simp at h; omega)
    rw [put_ten (by omega)] at hs
    have hpow : (10 : Nat) ^ (r.nm + 1) ≤ 10 ^ 19 := Nat.pow_le_pow_right (by decide) (by omega)
    have hps := Nat.pow_succ 10 r.nm
    have hb : r.m * 10 + (c.toNat - 48) < 10 ^ (r.nm + 1) := by omega
    have hmod : (r.m * 10 + (c.toNat - 48)) % 18446744073709551616 = r.m * 10 + (c.toNat - 48) := Nat.mod_eq_of_lt (by omega)
    rw [hmod] at hs
    rw [stepAll_step hs]
    rw [all_digits ds _ (fun x hx => hd x (by simp [hx])) (by simp only; omega) (by simp only; omega) (by simpa using hb) (.inl (by simp only; omega))]
    simp only [valD_cons, List.length_cons, List.isEmpty_cons, Bool.not_false, Bool.or_true, Bool.true_or, Option.some.injEq, Rf.mk.injEq, true_and, and_true]
    omega
/-- Zeros ahead of all digits. -/
theorem all_zeros : ∀ (k : Nat) (r : Rf), r.nd = 0 → stepAll false r (List.replicate k 48) = some { r with dig := r.dig || (k != 0), dp := r.dp - k }
  | 0, r, _ => by simp [stepAll]
  | k + 1, r, h => by
    rw [List.replicate_succ, stepAll_step (step_zero (show (48 : UInt8).toNat = 48 from rfl) h), all_zeros k { r with dig := true, dp := r.dp - 1 } h]
    simp only [Option.some.injEq, Rf.mk.injEq, true_and, Bool.true_or]
    refine ⟨by simp, by omega⟩

/-- The digits end where the text ends, or at a byte that is none. -/
theorem rfC_of {s xs ys : List UInt8} {i : Nat} {r : Rf} (neg : Bool) (hd : s.drop i = xs ++ ys) (ha : stepAll false rf0 xs = some r) (hy : ys = [] ∨ ∃ c l, ys = c :: l ∧ r.step false c.toNat = none) :
    rfC s neg false i = rfD s neg false r (i + xs.length) := by
  have hr : rfRun false r ys = (r, 0) := by
    rcases hy with rfl | ⟨c, l, rfl, h⟩
    · rfl
    · unfold rfRun
      rw [h]
  unfold rfC
  rw [hd, run_all ha, hr]
  rfl
theorem rfE_end {s : List UInt8} {neg : Bool} {r : Rf} {i : Nat} {dp : Int} {nm : Nat} (h : s.length ≤ i) : rfE s neg false r i dp nm = some ⟨r.m, expo r.m dp nm, neg, r.tr, false, i, r.us⟩ := by
  unfold rfE
  rw [if_neg (fun q => by omega), if_neg Bool.false_ne_true]
theorem getD_drop {s ys : List UInt8} {i k : Nat} (h : s.drop i = ys) : s.getD (i + k) 0 = ys.getD k 0 := by
  rw [← h, List.getD_eq_getElem?_getD, List.getD_eq_getElem?_getD, List.getElem?_drop]
theorem rfE_exp {s tl : List UInt8} {neg : Bool} {r : Rf} {i : Nat} {dp : Int} {nm x : Nat} {c : UInt8} (hd : s.drop i = 101 :: c :: tl) (hc : c = 43 ∨ c = 45) (h1 : 0 < tl.length) (h2 : isDig (tl.getD 0 0)) (hx : exRun 0 r.us tl = (x, r.us, tl.length)) :
    rfE s neg false r i dp nm = some ⟨r.m, expo r.m (dp + x * (if c = 45 then -1 else 1)) nm, neg, r.tr, false, s.length, r.us⟩ := by
  have hl : s.length = i + (tl.length + 2) := by
    have := congrArg List.length hd
    rw [List.length_drop] at this
    simp at this
    omega
  have g0 : s.getD i 0 = 101 := getD_drop (k := 0) hd
  have g1 : s.getD (i + 1) 0 = c := getD_drop (k := 1) hd
  have g2 : s.getD (i + 2) 0 = tl.getD 0 0 := by rw [getD_drop (k := 2) hd]; rfl
  have hdr : s.drop (i + 2) = tl := by
    have := congrArg (List.drop 2) hd
    rw [List.drop_drop] at this
    exact this
  have hcn : c.toNat = 43 ∨ c.toNat = 45 := by rcases hc with rfl | rfl; exact .inl rfl; exact .inr rfl
  have hcs : (if c.toNat = 45 then (-1 : Int) else 1) = if c = 45 then -1 else 1 := by rcases hc with rfl | rfl <;> rfl
  unfold isDig at h2
  unfold rfE
  rw [if_pos ⟨by omega, by rw [g0]; rfl⟩, if_neg (by omega), g1]
  simp only
  rw [if_pos hcn, g2, if_neg (by omega), hdr, hx, hcs]
  simp only [Option.some.injEq, RfOut.mk.injEq, true_and, and_true]
  omega
theorem byte_dig {k : Nat} (h : k < 10) : ((48 + k).toUInt8).toNat = 48 + k := Lib.toUInt8_toNat (by omega)
theorem exRun_dig {e : Nat} {u : Bool} {k : Nat} {l : List UInt8} (hk : k < 10) (he : e < 10000) : exRun e u ((48 + k).toUInt8 :: l) = ((exRun (e * 10 + k) u l).1, (exRun (e * 10 + k) u l).2.1, (exRun (e * 10 + k) u l).2.2 + 1) := by
  conv => lhs; unfold exRun
  rw [byte_dig hk, if_pos (by omega), if_pos he, show 48 + k - 48 = k by omega]
theorem exRun_tail {x : Nat} (h : x < 1000) : exRun 0 false (expTail x) = (x, false, (expTail x).length) := by
  unfold expTail
  by_cases h1 : x < 10
  · rw [if_pos h1]
    have e0 := exRun_dig (e := 0) (u := false) (k := 0) (l := [(48 + x).toUInt8]) (by omega) (by omega)
    have e1 := exRun_dig (e := 0) (u := false) (k := x) (l := []) h1 (by omega)
    have e2 : ((48 + 0).toUInt8 : UInt8) = 48 := rfl
    rw [e2] at e0
    rw [e0]
    simp only [Nat.zero_mul, Nat.zero_add] at e1 ⊢
    rw [e1]
    simp [exRun]
  · rw [if_neg h1]
    by_cases h2 : x < 100
    · rw [if_pos h2, exRun_dig (by omega) (by omega), exRun_dig (by omega) (by omega)]
      simp [exRun]
      omega
    · rw [if_neg h2, exRun_dig (by omega) (by omega), exRun_dig (by omega) (by omega), exRun_dig (by omega) (by omega)]
      simp [exRun]
      omega
theorem expTail_head {x : Nat} (h : x < 1000) : 0 < (expTail x).length ∧ isDig ((expTail x).getD 0 0) := by
  unfold expTail isDig
  by_cases h1 : x < 10
  · rw [if_pos h1]
    refine ⟨by simp, ?_⟩
    show 48 ≤ (48 : UInt8).toNat ∧ (48 : UInt8).toNat ≤ 57
    decide
  · rw [if_neg h1]
    by_cases h2 : x < 100
    · rw [if_pos h2]
      refine ⟨by simp, ?_⟩
      show 48 ≤ ((48 + x / 10).toUInt8).toNat ∧ ((48 + x / 10).toUInt8).toNat ≤ 57
      rw [byte_dig (by omega)]; omega
    · rw [if_neg h2]
      refine ⟨by simp, ?_⟩
      show 48 ≤ ((48 + x / 100).toUInt8).toNat ∧ ((48 + x / 100).toUInt8).toNat ≤ 57
      rw [byte_dig (by omega)]; omega
end Go.Proofs.YtkaeaiagmihmgaaGreatDoor

namespace Go.Proofs.YtkaeaiagmihmgaaGreatDoor
open Go.RowKit Go.Sort

theorem low5_ne : ∀ c : Nat, c < 256 → c ||| 32 = 120 → c = 88 ∨ c = 120 := by decide +kernel
def sg (neg : Bool) : List UInt8 := if neg then [45] else []
theorem rfM_sign {b : List UInt8} (neg : Bool) (h0 : 0 < b.length) (hd : isDig (b.getD 0 0)) (hx : (b.getD 1 0).toNat ≠ 88 ∧ (b.getD 1 0).toNat ≠ 120) : rfM (sg neg ++ b) = rfC (sg neg ++ b) neg false (sg neg).length := by
  have hlow : ¬ low5 (b.getD 1 0).toNat = 120 := fun h => by
    rcases low5_ne _ (b.getD 1 0).toNat_lt h with h | h
    · exact hx.1 h
    · exact hx.2 h
  unfold isDig at hd
  cases neg with
  | true =>
    unfold rfM sg
    rw [if_neg (by simp), if_neg (show ¬ ((((if true = true then [45] else []) ++ b : List UInt8)).getD 0 0).toNat = 43 from (by decide : ¬ (45 : UInt8).toNat = 43)), if_pos (show ((((if true = true then [45] else []) ++ b : List UInt8)).getD 0 0).toNat = 45 from rfl)]
    unfold rfB
    rw [if_neg (fun h => hlow h.2.2)]
    rfl
  | false =>
    unfold rfM sg
    show (if b.length = 0 then none else if (b.getD 0 0).toNat = 43 then rfB b false 1 else if (b.getD 0 0).toNat = 45 then rfB b true 1 else rfB b false 0) = _
    rw [if_neg (by omega), if_neg (by omega), if_neg (by omega)]
    unfold rfB
    rw [if_neg (fun h => hlow h.2.2)]
    rfl

/-- Digits: none but digits, the first of them no nought. -/
structure DigsF (ds : List UInt8) : Prop where
  all : ∀ c ∈ ds, isDig c
  head : (ds.getD 0 0).toNat ≠ 48
  one : 1 ≤ ds.length
  most : ds.length ≤ 17
theorem DigsF.first {ds : List UInt8} (h : DigsF ds) : isDig (ds.getD 0 0) := by
  have h1 := h.one
  match ds, h1 with
  | c :: l, _ => exact h.all c (by simp)
theorem digs_at {ds : List UInt8} (h : DigsF ds) {j : Nat} (hj : j < ds.length) : isDig (ds.getD j 0) := by
  rw [List.getD_eq_getElem?_getD, List.getElem?_eq_getElem hj]
  exact h.all _ (List.getElem_mem hj)
def rfTen (m n : Nat) (dot : Bool) (dp : Int) : Rf := ⟨m, false, false, dot, true, n, n, dp⟩
theorem DigsF.run {ds : List UInt8} (h : DigsF ds) : stepAll false rf0 ds = some (rfTen (valD 0 ds) ds.length false 0) := by
  have h1 := h.one
  have h2 := h.most
  rw [all_digits ds rf0 h.all rfl (by show 0 + ds.length ≤ 19; omega) (by decide) (.inr (.inr h.head))]
  have e : ds.isEmpty = false := by cases ds with | nil => simp at h1 | cons => rfl
  rw [e]
  simp [rfTen, rf0]
theorem step_e (r : Rf) : r.step false (101 : UInt8).toNat = none := step_none (by decide) (by decide) (by decide) (fun h => absurd h.1 Bool.false_ne_true)

/-- Digits, a point, digits. -/
theorem DigsF.run_dot {ds : List UInt8} (h : DigsF ds) {k : Nat} (h0 : 0 < k) (hk : k < ds.length) : stepAll false rf0 (ds.take k ++ 46 :: ds.drop k) = some (rfTen (valD 0 ds) ds.length true k) := by
  have h2 := h.most
  have hl : (ds.take k).length = k := by rw [List.length_take]; omega
  have ht : ∀ c ∈ ds.take k, isDig c := fun c hc => h.all c (List.mem_of_mem_take hc)
  have hd : ∀ c ∈ ds.drop k, isDig c := fun c hc => h.all c (List.mem_of_mem_drop hc)
  have hh : ((ds.take k).getD 0 0).toNat ≠ 48 := by
    rw [List.getD_eq_getElem?_getD, List.getElem?_take, if_pos h0, ← List.getD_eq_getElem?_getD]
    exact h.head
  have e1 := all_digits (ds.take k) rf0 ht rfl (by show 0 + (ds.take k).length ≤ 19; omega) (by decide) (.inr (.inr hh))
  have en : (ds.take k).isEmpty = false := by
    cases hq : ds.take k with
    | nil => rw [hq] at hl; simp at hl; omega
    | cons => rfl
  rw [en, hl] at e1
  have e1' : stepAll false rf0 (ds.take k) = some (rfTen (valD 0 (ds.take k)) k false 0) := by rw [e1]; simp [rfTen, rf0]
  rw [stepAll_append e1', stepAll_step (step_dot (r := rfTen (valD 0 (ds.take k)) k false 0) (show (46 : UInt8).toNat = 46 from rfl) rfl)]
  have hv := valD_lt (ds.take k) 0 0 ht (by decide)
  rw [hl, Nat.zero_add] at hv
  rw [all_digits (ds.drop k) _ hd rfl (by show k + (ds.drop k).length ≤ 19; rw [List.length_drop]; omega) hv (.inl h0)]
  have ev : valD (valD 0 (ds.take k)) (ds.drop k) = valD 0 ds := by rw [← valD_append, List.take_append_drop]
  show some (⟨valD (valD 0 (ds.take k)) (ds.drop k), false, false, true, true || _, k + (ds.drop k).length, k + (ds.drop k).length, (k : Int)⟩ : Rf) = _
  rw [ev, List.length_drop, show k + (ds.length - k) = ds.length by omega]
  rfl
/-- Nought, a point, noughts, digits. -/
theorem DigsF.run_low {ds : List UInt8} (h : DigsF ds) (k : Nat) : stepAll false rf0 (48 :: 46 :: (List.replicate k 48 ++ ds)) = some (rfTen (valD 0 ds) ds.length true (-(k : Int))) := by
  have h2 := h.most
  have h1 := h.one
  rw [stepAll_step (step_zero (r := rf0) (show (48 : UInt8).toNat = 48 from rfl) rfl), stepAll_step (step_dot (show (46 : UInt8).toNat = 46 from rfl) rfl)]
  rw [stepAll_append (all_zeros k _ rfl)]
  rw [all_digits ds _ h.all rfl (by show 0 + ds.length ≤ 19; omega) (show (0 : Nat) < 10 ^ 0 by decide) (.inr (.inr h.head))]
  simp [rf0, rfTen]
/-- Digits, noughts. -/
theorem DigsF.run_high {ds : List UInt8} (h : DigsF ds) {k : Nat} (hk : ds.length + k ≤ 19) : stepAll false rf0 (ds ++ List.replicate k 48) = some (rfTen (valD 0 ds * 10 ^ k) (ds.length + k) false 0) := by
  have hv := valD_lt ds 0 0 h.all (by decide)
  rw [Nat.zero_add] at hv
  have h1 := h.one
  rw [stepAll_append h.run, all_digits (List.replicate k 48) _ (fun c hc => by rw [(List.mem_replicate.1 hc).2]; exact ⟨by decide, by decide⟩) rfl (by show ds.length + (List.replicate k 48).length ≤ 19; rw [List.length_replicate]; exact hk) hv (.inl (by show 0 < ds.length; omega))]
  show some (⟨valD (valD 0 ds) (List.replicate k 48), false, false, false, true || _, ds.length + (List.replicate k (48 : UInt8)).length, ds.length + (List.replicate k (48 : UInt8)).length, 0⟩ : Rf) = _
  rw [valD_zeros, List.length_replicate]
  rfl
end Go.Proofs.YtkaeaiagmihmgaaGreatDoor

namespace Go.Proofs.YtkaeaiagmihmgaaGreatDoor
open Go.RowKit Go.Sort

theorem rfD_ten {s : List UInt8} {neg dot : Bool} {M n i : Nat} {q : Int} : rfD s neg false (rfTen M n dot q) i = rfE s neg false (rfTen M n dot q) i (if dot then q else n) n := by
  unfold rfD rfTen
  simp
theorem drop_sg (neg : Bool) (b : List UInt8) : (sg neg ++ b).drop (sg neg).length = b := List.drop_left
theorem read_end {b : List UInt8} (neg : Bool) (h0 : 0 < b.length) (hd : isDig (b.getD 0 0)) (hx : (b.getD 1 0).toNat ≠ 88 ∧ (b.getD 1 0).toNat ≠ 120) {M n : Nat} {dot : Bool} {q : Int} (ha : stepAll false rf0 b = some (rfTen M n dot q)) (hM : M ≠ 0) :
    rfM (sg neg ++ b) = some ⟨M, (if dot then q else n) - n, neg, false, false, (sg neg ++ b).length, false⟩ := by
  rw [rfM_sign neg h0 hd hx, rfC_of (xs := b) (ys := []) neg (by rw [drop_sg, List.append_nil]) ha (.inl rfl), rfD_ten, rfE_end (by rw [List.length_append]; exact Nat.le_refl _)]
  unfold expo
  rw [if_neg (show ¬ (rfTen M n dot q).m = 0 from hM), List.length_append]
  rfl
theorem read_exp {xs tl : List UInt8} (neg : Bool) {c : UInt8} (h0 : 0 < xs.length) (hd : isDig (xs.getD 0 0)) (hx : ((xs ++ 101 :: c :: tl).getD 1 0).toNat ≠ 88 ∧ ((xs ++ 101 :: c :: tl).getD 1 0).toNat ≠ 120) {M n x : Nat} {dot : Bool} {q : Int} (ha : stepAll false rf0 xs = some (rfTen M n dot q)) (hM : M ≠ 0)
    (hc : c = 43 ∨ c = 45) (h1 : 0 < tl.length) (h2 : isDig (tl.getD 0 0)) (he : exRun 0 false tl = (x, false, tl.length)) :
    rfM (sg neg ++ (xs ++ 101 :: c :: tl)) = some ⟨M, (if dot then q else n) + x * (if c = 45 then -1 else 1) - n, neg, false, false, (sg neg ++ (xs ++ 101 :: c :: tl)).length, false⟩ := by
  have hd' : isDig ((xs ++ 101 :: c :: tl).getD 0 0) := by
    rw [List.getD_eq_getElem?_getD, List.getElem?_append_left h0, ← List.getD_eq_getElem?_getD]
    exact hd
  rw [rfM_sign neg (by simp; omega) hd' hx, rfC_of (xs := xs) (ys := 101 :: c :: tl) neg (drop_sg _ _) ha (.inr ⟨101, _, rfl, step_e _⟩), rfD_ten]
  rw [rfE_exp (c := c) (tl := tl) (x := x) (by rw [← List.drop_drop, drop_sg]; exact List.drop_left) hc h1 h2 he]
  unfold expo
  rw [if_neg (show ¬ (rfTen M n dot q).m = 0 from hM)]
  rfl
theorem dig_ok {c : UInt8} (h : isDig c) : c.toNat ≠ 88 ∧ c.toNat ≠ 120 := by unfold isDig at h; omega
theorem getD_single {ds : List UInt8} (h : ds.length = 1) : ds = [ds.getD 0 0] := by
  match ds, h with
  | [_], _ => rfl
theorem take_one {ds : List UInt8} (h : 1 ≤ ds.length) : ds.take 1 = [ds.getD 0 0] := by
  match ds, h with
  | _ :: _, _ => rfl

theorem read_text {ds : List UInt8} (h : DigsF ds) (neg : Bool) (dp : Int) (h1 : -400 ≤ dp) (h2 : dp ≤ 400) (hv : valD 0 ds ≠ 0) :
    ∃ (M : Nat) (E : Int), rfM (textD neg ds dp) = some ⟨M, E, neg, false, false, (textD neg ds dp).length, false⟩ ∧
      ((M = valD 0 ds ∧ E = dp - ds.length) ∨ ∃ k : Nat, M = valD 0 ds * 10 ^ k ∧ E = 0 ∧ dp = ds.length + k ∧ ds.length + k ≤ 16) := by
  have l1 := h.one
  have l2 := h.most
  have hf := h.first
  show ∃ (M : Nat) (E : Int), rfM (sg neg ++ (if dp < -3 ∨ 7 ≤ dp then textE ds dp else textF ds dp)) = some ⟨M, E, neg, false, false, (sg neg ++ (if dp < -3 ∨ 7 ≤ dp then textE ds dp else textF ds dp)).length, false⟩ ∧ _
  by_cases hE : dp < -3 ∨ 7 ≤ dp
  · rw [if_pos hE]
    have hx1 : (dp - 1).natAbs < 1000 := by omega
    obtain ⟨t1, t2⟩ := expTail_head hx1
    have t3 := exRun_tail hx1
    have hcc : (if dp < 1 then (45 : UInt8) else 43) = 43 ∨ (if dp < 1 then (45 : UInt8) else 43) = 45 := by split <;> simp
    have hE' : ∀ n : Nat, (1 : Int) + ((dp - 1).natAbs : Int) * (if (if dp < 1 then (45 : UInt8) else 43) = 45 then -1 else 1) - n = dp - n := by
      intro n
      by_cases hd : dp < 1
      · simp only [if_pos hd, if_true]; omega
      · simp only [if_neg hd]; rw [if_neg (by decide)]; omega
    unfold textE
    by_cases hn : 1 < ds.length
    · rw [if_pos hn]
      have ha := h.run_dot (k := 1) (by omega) hn
      rw [take_one l1] at ha
      refine ⟨_, _, read_exp neg (xs := [ds.getD 0 0] ++ 46 :: ds.drop 1) (by simp) hf ⟨by show ¬ (46 : UInt8).toNat = 88; decide, by show ¬ (46 : UInt8).toNat = 120; decide⟩ ha hv hcc t1 t2 t3, .inl ⟨rfl, ?_⟩⟩
      simp only [if_true]
      exact hE' _
    · rw [if_neg hn]
      have hl : ds.length = 1 := by omega
      have ha := h.run
      rw [hl] at ha
      have e1 := getD_single hl
      have ha' : stepAll false rf0 [ds.getD 0 0] = some (rfTen (valD 0 ds) 1 false 0) := by rw [← e1]; exact ha
      refine ⟨_, _, read_exp neg (xs := [ds.getD 0 0]) (by simp) hf ⟨by show ¬ (101 : UInt8).toNat = 88; decide, by show ¬ (101 : UInt8).toNat = 120; decide⟩ ha' hv hcc t1 t2 t3, .inl ⟨rfl, ?_⟩⟩
      rw [hl]
      exact hE' 1
  · rw [if_neg hE]
    unfold textF
    by_cases hp : 0 < dp
    · rw [if_pos hp]
      obtain ⟨k, rfl⟩ : ∃ k : Nat, dp = (k : Int) := ⟨dp.toNat, by omega⟩
      simp only [Int.toNat_natCast]
      by_cases hk : k < ds.length
      · rw [if_pos hk, show k - ds.length = 0 by omega, List.replicate_zero, List.nil_append]
        have ha := h.run_dot (k := k) (by omega) hk
        have hg : isDig ((ds.take k ++ 46 :: ds.drop k).getD 0 0) := by
          rw [List.getD_eq_getElem?_getD, List.getElem?_append_left (by rw [List.length_take]; omega), List.getElem?_take, if_pos (by omega), ← List.getD_eq_getElem?_getD]
          exact hf
        have hg2 : ((ds.take k ++ 46 :: ds.drop k).getD 1 0).toNat ≠ 88 ∧ ((ds.take k ++ 46 :: ds.drop k).getD 1 0).toNat ≠ 120 := by
          by_cases h1k : k = 1
          · subst h1k
            rw [take_one l1]
            exact ⟨by show ¬ (46 : UInt8).toNat = 88; decide, by show ¬ (46 : UInt8).toNat = 120; decide⟩
          · rw [List.getD_eq_getElem?_getD, List.getElem?_append_left (by rw [List.length_take]; omega), List.getElem?_take, if_pos (by omega), ← List.getD_eq_getElem?_getD]
            exact dig_ok (digs_at h (by omega))
        exact ⟨_, _, read_end neg (by simp; omega) hg hg2 ha hv, .inl ⟨rfl, rfl⟩⟩
      · rw [if_neg hk, List.append_nil, List.take_of_length_le (by omega)]
        obtain ⟨z, hz⟩ : ∃ z, k = ds.length + z := ⟨k - ds.length, by omega⟩
        rw [show k - ds.length = z by omega]
        have ha := h.run_high (k := z) (by omega)
        have hg : isDig ((ds ++ List.replicate z 48).getD 0 0) := by
          rw [List.getD_eq_getElem?_getD, List.getElem?_append_left (by omega), ← List.getD_eq_getElem?_getD]
          exact hf
        have hg2 : ((ds ++ List.replicate z 48).getD 1 0).toNat ≠ 88 ∧ ((ds ++ List.replicate z 48).getD 1 0).toNat ≠ 120 := by
          by_cases h1d : 1 < ds.length
          · rw [List.getD_eq_getElem?_getD, List.getElem?_append_left h1d, ← List.getD_eq_getElem?_getD]
            exact dig_ok (digs_at h h1d)
          · rw [List.getD_eq_getElem?_getD, List.getElem?_append_right (by omega), List.getElem?_replicate]
            split
            · exact ⟨by decide, by decide⟩
            · exact ⟨by decide, by decide⟩
        refine ⟨_, _, read_end neg (by simp; omega) hg hg2 ha (Nat.mul_ne_zero hv (Nat.ne_of_gt (Nat.pow_pos (by decide)))), .inr ⟨z, rfl, ?_, by omega, by omega⟩⟩
        simp
    · rw [if_neg hp]
      obtain ⟨k, hk⟩ : ∃ k : Nat, dp = -(k : Int) := ⟨(-dp).toNat, by omega⟩
      subst hk
      rw [show (-(-(k : Int))).toNat = k by omega]
      have ha := h.run_low k
      refine ⟨_, _, read_end neg (by simp) ⟨by show 48 ≤ (48 : UInt8).toNat; decide, by show (48 : UInt8).toNat ≤ 57; decide⟩ ⟨by show ¬ (46 : UInt8).toNat = 88; decide, by show ¬ (46 : UInt8).toNat = 120; decide⟩ ha hv, .inl ⟨rfl, rfl⟩⟩
end Go.Proofs.YtkaeaiagmihmgaaGreatDoor

namespace Go.Proofs.YtkaeaiagmihmgaaGreatDoor
open Go.RowKit Go.Sort

theorem valD_range {d n : Nat} (hd : d < 10 ^ n) : ∀ k : Nat, k ≤ n → valD 0 ((List.range k).map (fun j => (48 + d / 10 ^ (n - 1 - j) % 10).toUInt8)) = d / 10 ^ (n - k)
  | 0, _ => by simp only [List.range_zero, List.map_nil, Nat.sub_zero]; rw [Nat.div_eq_of_lt hd]; rfl
  | k + 1, h => by
    rw [List.range_succ, List.map_append, valD_append, valD_range hd k (by omega)]
    simp only [List.map_cons, List.map_nil]
    rw [valD_cons, byte_dig (Nat.mod_lt _ (by decide))]
    show _ * 10 + (48 + d / 10 ^ (n - 1 - k) % 10 - 48) = d / 10 ^ (n - (k + 1))
    have e1 : n - k = n - 1 - k + 1 := by omega
    have e2 : n - (k + 1) = n - 1 - k := by omega
    rw [e1, e2, Nat.pow_succ, ← Nat.div_div_eq_div_mul]
    generalize d / 10 ^ (n - 1 - k) = x
    omega
theorem digits_digs {d : Nat} {p dp : Int} {ds : List UInt8} (h : DigitsOf d p ds dp) :
    ∃ z : Nat, DigsF ds ∧ valD 0 ds ≠ 0 ∧ valD 0 ds < 100000000000000000 ∧ d = valD 0 ds * 10 ^ z ∧ dp - ds.length = p + z ∧ z ≤ 16 := by
  obtain ⟨nd, n, d', a1, a2, a3, a4, a5, a6, a7, a8, a9, a10⟩ := h
  have hlen : ds.length = n := by rw [a9, List.length_map, List.length_range]
  have hp : 0 < 10 ^ (nd - n) := Nat.pow_pos (by decide)
  have u1 : d' < 10 ^ n := by
    rw [a7, show nd = n + (nd - n) by omega, Nat.pow_add, show n + (nd - n) - n = nd - n by omega] at a4
    exact Nat.lt_of_mul_lt_mul_right a4
  have u2 : 10 ^ (n - 1) ≤ d' := by
    rw [a7, show nd - 1 = n - 1 + (nd - n) by omega, Nat.pow_add] at a3
    exact Nat.le_of_mul_le_mul_right a3 hp
  have u3 : 10 ^ n ≤ 10 ^ 17 := Nat.pow_le_pow_right (by decide) (by omega)
  have u4 : 0 < 10 ^ (n - 1) := Nat.pow_pos (by decide)
  have hv : valD 0 ds = d' := by rw [a9, valD_range u1 n (Nat.le_refl _), Nat.sub_self, Nat.pow_zero, Nat.div_one]
  refine ⟨nd - n, ⟨?_, ?_, by omega, by omega⟩, by omega, by omega, by rw [hv]; exact a7, by omega, by omega⟩
  · intro c hc
    rw [a9] at hc
    obtain ⟨j, _, rfl⟩ := List.mem_map.1 hc
    unfold isDig
    rw [byte_dig (Nat.mod_lt _ (by decide))]
    have := Nat.mod_lt (d' / 10 ^ (n - 1 - j)) (show 0 < 10 by decide)
    omega
  · have h0 : ds.getD 0 0 = (48 + d' / 10 ^ (n - 1 - 0) % 10).toUInt8 := by
      rw [a9, List.getD_eq_getElem?_getD, List.getElem?_map, List.getElem?_range (by omega)]
      rfl
    rw [h0, byte_dig (Nat.mod_lt _ (by decide)), Nat.sub_zero]
    have hq1 : 1 ≤ d' / 10 ^ (n - 1) := (Nat.le_div_iff_mul_le u4).2 (by omega)
    have hq2 : d' / 10 ^ (n - 1) < 10 := by
      rw [Nat.div_lt_iff_lt_mul u4, Nat.mul_comm, ← Nat.pow_succ, show (n - 1).succ = n by omega]
      exact u1
    omega

theorem pow_big : ∃ S T : Nat, S = 969 ∧ T = 309 ∧ (4 * 9007199254740992 : Nat) * 2 ^ S < 10 ^ T := ⟨969, 309, rfl, rfl, by decide +kernel⟩
theorem InFloat.small {M : Nat} {E : Int} {m h : Nat} {e : Int} (H : InFloat M E m e h) (h0 : 0 < M) : E ≤ 308 := by
  by_cases hE : E ≤ 308
  · exact hE
  · exfalso
    have hi := Nat.le_trans (Nat.le_add_right _ _) H.hi
    unfold hi2 lo2 at hi
    have m2 := H.m2
    have e2 := H.e2
    rw [show (-E).toNat = 0 by omega, Nat.pow_zero, Nat.mul_one] at hi
    obtain ⟨S, T, hS, hT, big⟩ := pow_big
    have a1 : 1 * 1 * 10 ^ T ≤ M * 2 ^ (-(e - 2)).toNat * 10 ^ E.toNat := Nat.mul_le_mul (Nat.mul_le_mul h0 (Nat.pow_pos (by decide))) (Nat.pow_le_pow_right (by decide) (by omega))
    have a2 : (4 * m + 2) * 2 ^ (e - 2).toNat ≤ 4 * 9007199254740992 * 2 ^ S := Nat.mul_le_mul (by omega) (Nat.pow_le_pow_right (by decide) (by omega))
    rw [Nat.one_mul] at a1
    exact absurd (Nat.lt_of_le_of_lt (Nat.le_trans (Nat.le_trans a1 hi) a2) big) (Nat.lt_irrefl _)

/-- What a number's text is read as. -/
theorem num_read {neg : Bool} {m : Nat} {e : Int} {t : List UInt8} (h : TextNum neg m e t) (m1 : 1 ≤ m) (m2 : m < 9007199254740992) (e1 : -1074 ≤ e) (e2 : e ≤ 971) (sub : m < 4503599627370496 → e = -1074) :
    ∃ (M : Nat) (E : Int), rfM t = some ⟨M, E, neg, false, false, t.length, false⟩ ∧ 0 < M ∧ M < 100000000000000000 ∧ -345 ≤ E ∧ E ≤ 308 ∧ InFloat M E m e (loH m e) := by
  obtain ⟨k, d, p, ds, dp, a1, a2, a3, a4, rfl⟩ := h
  obtain ⟨q1, q2, q3, q4⟩ := short_own m1 m2 e1 e2 sub a1 a2 d p a3
  have k64 : k ≤ 63 := by
    rcases Nat.lt_or_ge k 64 with hk | hk
    · omega
    · exfalso
      have : 2 ^ 64 ≤ 2 ^ k := Nat.pow_le_pow_right (by decide) hk
      have := Nat.mul_le_mul m1 this
      omega
  have k11 : 11 ≤ k := by
    rcases Nat.lt_or_ge k 11 with hk | hk
    · exfalso
      have : 2 ^ k ≤ 2 ^ 10 := Nat.pow_le_pow_right (by decide) (by omega)
      have := Nat.mul_le_mul (show m ≤ 9007199254740991 by omega) this
      unfold topM at a1
      omega
    · exact hk
  have hx := short_exp (m := m * 2 ^ k) (e := e - k) (by omega) (by omega)
  rw [a3] at hx
  simp only at hx
  obtain ⟨z, hD, hv, hv2, hd, hdp, hz⟩ := digits_digs a4
  have hdl := hD.one
  have hdm := hD.most
  obtain ⟨M, E, hr, hME⟩ := read_text hD neg dp (by omega) (by omega) hv
  rw [hd] at q3 q4
  obtain ⟨s1, s2⟩ := short_struck q3 q4
  have H0 : InFloat (valD 0 ds) (p + z) m e (loH m e) := ⟨m1, m2, e1, e2, sub, loH_cases m e, (fun h1 h2 => by unfold loH; rw [if_pos ⟨h1, h2⟩]), s1, s2⟩
  rcases hME with ⟨rfl, rfl⟩ | ⟨y, rfl, rfl, hy, hy2⟩
  · rw [hdp] at hr
    exact ⟨_, _, hr, by omega, hv2, by omega, H0.small (by omega), H0⟩
  · have hpz : p + (z : Int) = 0 + (y : Int) := by omega
    have H1 : InFloat (valD 0 ds * 10 ^ y) 0 m e (loH m e) := by
      rw [hpz] at s1 s2
      exact ⟨m1, m2, e1, e2, sub, loH_cases m e, (fun h1 h2 => by unfold loH; rw [if_pos ⟨h1, h2⟩]), (tens_le' (by omega) y _ 0).2 s1, (tens_ge' (by omega) y _ 0).2 s2⟩
    have hb := valD_lt ds 0 0 hD.all (by decide)
    rw [Nat.zero_add] at hb
    have hy0 : 0 < 10 ^ y := Nat.pow_pos (by decide)
    have hM : valD 0 ds * 10 ^ y < 100000000000000000 := by
      have c1 : valD 0 ds * 10 ^ y < 10 ^ ds.length * 10 ^ y := Nat.mul_lt_mul_of_pos_right hb hy0
      rw [← Nat.pow_add] at c1
      have c2 : 10 ^ (ds.length + y) ≤ 10 ^ 17 := Nat.pow_le_pow_right (by decide) (by omega)
      omega
    exact ⟨_, _, hr, Nat.mul_pos (by omega) hy0, hM, by omega, by omega, H1⟩
end Go.Proofs.YtkaeaiagmihmgaaGreatDoor
