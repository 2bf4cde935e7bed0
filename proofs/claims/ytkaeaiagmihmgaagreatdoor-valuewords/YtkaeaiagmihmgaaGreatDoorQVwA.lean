/- A number's text is read as that number. No program is named here. -/
/- A float's text has at most 24 letters. -/
/- What the walks of values' words ask of memory. -/
import Derived.Lib.AtoiAll
import Derived.Lib.ItoaNum
import Derived.Test.YtkaeaiagmihmgaaGreatDoorQFxJ
import Derived.Test.YtkaeaiagmihmgaaGreatDoorQGaD
import Derived.Test.YtkaeaiagmihmgaaGreatDoorQGaT
import Derived.Test.YtkaeaiagmihmgaaGreatDoorQValF
import Derived.Lib.AtoiAllCases
import Derived.Lib.AppendIntMem
import Derived.Lib.ItoaLen
namespace Go.Proofs.YtkaeaiagmihmgaaGreatDoor

theorem parse_snoc (c : UInt8) : ∀ (l : List UInt8) (acc : Nat), Lib.parseUint10 acc (l ++ [c]) = (match Lib.parseUint10 acc l with | .ok a => Lib.parseUint10 a [c] | .syntax => .syntax | .range => .range)
  | [], acc => rfl
  | d :: l, acc => by
    rw [List.cons_append, Lib.parseUint10, Lib.parseUint10]
    by_cases h : 48 ≤ d.toNat ∧ d.toNat ≤ 57
    · rw [if_pos h, if_pos h]
      by_cases h1 : 1844674407370955162 ≤ acc
      · rw [if_pos h1, if_pos h1]
      · rw [if_neg h1, if_neg h1]
        by_cases h2 : 18446744073709551616 ≤ acc * 10 + (d.toNat - 48)
        · rw [if_pos h2, if_pos h2]
        · rw [if_neg h2, if_neg h2]
          exact parse_snoc c l _
    · rw [if_neg h, if_neg h]
theorem digit_of {d : Nat} (h : d < 10) : (UInt8.ofNat (48 + d)).toNat = 48 + d := by
  rw [UInt8.toNat_ofNat']
  omega
theorem parse_digits (u : Nat) : u < 18446744073709551616 → Lib.parseUint10 0 (Lib.decDigits u) = .ok u := by
  induction u using Nat.strongRecOn with
  | _ u ih =>
    intro hu
    by_cases h : u < 10
    · rw [Lib.decDigits, dif_pos h, Lib.parseUint10, digit_of h, if_pos (by omega), if_neg (by omega), if_neg (by omega), Lib.parseUint10]
      congr 1
      omega
    · rw [Lib.decDigits, dif_neg h, parse_snoc, ih (u / 10) (by omega) (by omega)]
      show Lib.parseUint10 (u / 10) [UInt8.ofNat (48 + u % 10)] = .ok u
      rw [Lib.parseUint10, digit_of (by omega), if_pos (by omega), if_neg (by omega), if_neg (by omega), Lib.parseUint10]
      congr 1
      omega
theorem digits_head (u : Nat) : ∃ c r, Lib.decDigits u = c :: r ∧ 48 ≤ c.toNat ∧ c.toNat ≤ 57 := by
  induction u using Nat.strongRecOn with
  | _ u ih =>
    by_cases h : u < 10
    · rw [Lib.decDigits, dif_pos h]
      exact ⟨_, _, rfl, by rw [digit_of h]; omega, by rw [digit_of h]; omega⟩
    · rw [Lib.decDigits, dif_neg h]
      obtain ⟨c, r, h1, h2, h3⟩ := ih (u / 10) (by omega)
      exact ⟨c, r ++ [UInt8.ofNat (48 + u % 10)], by rw [h1]; rfl, h2, h3⟩
/-- strconv reads back what it writes. -/
theorem atoi_itoa (n : Int) (h0 : -9223372036854775808 ≤ n) (h1 : n ≤ 9223372036854775807) : Lib.atoiAll (Lib.itoa n) = .ok n := by
  unfold Lib.itoa
  by_cases hn : n < 0
  · rw [if_pos hn]
    obtain ⟨c, r, e, _, _⟩ := digits_head n.natAbs
    unfold Lib.atoiAll
    show (match Lib.parseMag (if (45 : UInt8).toNat = 43 ∨ (45 : UInt8).toNat = 45 then Lib.decDigits n.natAbs else 45 :: Lib.decDigits n.natAbs) with
      | .syntax => Lib.NumEnd.syntax
      | .range => .range
      | .ok u => if ¬ (45 : UInt8).toNat = 45 ∧ 9223372036854775808 ≤ u then .range else if (45 : UInt8).toNat = 45 ∧ 9223372036854775808 < u then .range else .ok (if (45 : UInt8).toNat = 45 then -(u : Int) else u)) = .ok n
    have h45 : (45 : UInt8).toNat = 45 := by decide
    rw [if_pos (.inr h45)]
    have hp : Lib.parseMag (Lib.decDigits n.natAbs) = .ok n.natAbs := by
      unfold Lib.parseMag
      rw [if_neg (by rw [e]; simp), parse_digits _ (by omega)]
    rw [hp]
    show (if ¬ (45 : UInt8).toNat = 45 ∧ 9223372036854775808 ≤ n.natAbs then Lib.NumEnd.range else if (45 : UInt8).toNat = 45 ∧ 9223372036854775808 < n.natAbs then .range else .ok (if (45 : UInt8).toNat = 45 then -(n.natAbs : Int) else n.natAbs)) = .ok n
    rw [if_neg (by omega), if_neg (by omega), if_pos h45]
    congr 1
    omega
  · rw [if_neg hn]
    obtain ⟨c, r, e, c1, c2⟩ := digits_head n.toNat
    have hp : Lib.parseMag (Lib.decDigits n.toNat) = .ok n.toNat := by
      unfold Lib.parseMag
      rw [if_neg (by rw [e]; simp), parse_digits _ (by omega)]
    rw [e] at hp ⊢
    unfold Lib.atoiAll
    show (match Lib.parseMag (if c.toNat = 43 ∨ c.toNat = 45 then r else c :: r) with
      | .syntax => Lib.NumEnd.syntax
      | .range => .range
      | .ok u => if ¬ c.toNat = 45 ∧ 9223372036854775808 ≤ u then .range else if c.toNat = 45 ∧ 9223372036854775808 < u then .range else .ok (if c.toNat = 45 then -(u : Int) else u)) = .ok n
    rw [if_neg (by omega), hp]
    show (if ¬ c.toNat = 45 ∧ 9223372036854775808 ≤ n.toNat then Lib.NumEnd.range else if c.toNat = 45 ∧ 9223372036854775808 < n.toNat then .range else .ok (if c.toNat = 45 then -(n.toNat : Int) else n.toNat)) = .ok n
    rw [if_neg (by omega), if_neg (by omega), if_neg (by omega)]
    congr 1
    omega
end Go.Proofs.YtkaeaiagmihmgaaGreatDoor

namespace Go.Proofs.YtkaeaiagmihmgaaGreatDoor
open Go.RowKit Go.Sort

theorem textNum_len {neg : Bool} {m : Nat} {e : Int} {t : List UInt8} (h : TextNum neg m e t) : t.length ≤ 24 := by
  obtain ⟨k, d, p, ds, dp, -, -, -, hd, rfl⟩ := h
  obtain ⟨nd, n, d', h1, h2, -, -, h5, h6, -, -, rfl, -⟩ := hd
  have hl : ((List.range n).map (fun j => (48 + d' / 10 ^ (n - 1 - j) % 10).toUInt8)).length = n := by simp
  generalize (List.range n).map (fun j => (48 + d' / 10 ^ (n - 1 - j) % 10).toUInt8) = ds at *
  unfold textD
  have hs : (if neg then [(45 : UInt8)] else []).length ≤ 1 := by cases neg <;> simp
  rw [List.length_append]
  by_cases hE : dp < -3 ∨ 7 ≤ dp
  · rw [if_pos hE]
    unfold textE
    have he : (expTail (dp - 1).natAbs).length ≤ 3 := by unfold expTail; repeat' split <;> simp
    have h3 : (if 1 < ds.length then (46 : UInt8) :: ds.drop 1 else []).length ≤ 17 := by
      split
      · rw [List.length_cons, List.length_drop]; omega
      · simp
    rw [List.length_append, List.length_cons, List.length_cons, List.length_cons]
    omega
  · rw [if_neg hE]
    unfold textF
    by_cases h0 : 0 < dp
    · rw [if_pos h0]
      have h3 : (if dp.toNat < ds.length then (46 : UInt8) :: ds.drop dp.toNat else []).length ≤ 1 + (ds.length - dp.toNat) := by
        split
        · rw [List.length_cons, List.length_drop]; omega
        · simp
      rw [List.length_append, List.length_append, List.length_take, List.length_replicate]
      omega
    · rw [if_neg h0]
      rw [List.length_cons, List.length_cons, List.length_append, List.length_replicate]
      omega
theorem textOf_len {b : Nat} {t : List UInt8} (h : TextOf b t) : t.length ≤ 24 := by
  rcases h with ⟨_, _, rfl⟩ | ⟨n, h⟩
  · simp
  · rcases h with ⟨_, rfl⟩ | ⟨_, rfl⟩ | ⟨m, _, _, _, h⟩ | ⟨ex, mt, _, _, _, _, h⟩
    · cases n <;> simp
    · cases n <;> simp
    · exact textNum_len h
    · exact textNum_len h
end Go.Proofs.YtkaeaiagmihmgaaGreatDoor

namespace Go.Proofs.YtkaeaiagmihmgaaGreatDoor
open Go.RowKit Go.Sort

theorem itab_below {w w' : World} (h : Lib.TabIs Tryz.prog w X3.1 .u64 Lib.pow10Tab) (hb : Below w.heap.size w w') : Lib.TabIs Tryz.prog w' X3.1 .u64 Lib.pow10Tab := by
  unfold Lib.TabIs World.var? at h ⊢
  rw [g3] at h ⊢
  simp only [Option.bind_some] at h ⊢
  have hlt : (2 : Nat) < w.heap.size := by
    rcases Nat.lt_or_ge (2 : Nat) w.heap.size with h' | h'
    · exact h'
    · rw [Array.getElem?_eq_none h'] at h; cases h
  rw [hb.block _ hlt]
  exact h
/-- All that values' words ask of memory. -/
structure WordsM (w : World) : Prop where
  tb : Tb w
  tx : Texts w
  itab : Lib.TabIs Tryz.prog w X3.1 .u64 Lib.pow10Tab
theorem Texts.below {w w' : World} (h : Texts w) (hb : Below w.heap.size w w') : Texts w' := by
  obtain ⟨hH, gT, oT, B, blk, po, hM⟩ := h
  exact ⟨hH.below hb, gT, oT, B, blk, po, hM.below hb⟩
theorem WordsM.below {w w' : World} (h : WordsM w) (hb : Below w.heap.size w w') : WordsM w' := ⟨h.tb.below hb, h.tx.below hb, itab_below h.itab hb⟩
theorem words_of_laid {W : World} (h : laidMet Tryz.prog ROW W) (hL : Lens W) : WordsM W := by
  refine ⟨⟨halfTabs_of_laid h, hL⟩, texts_of_laid h, ?_⟩
  obtain ⟨ps, hv, _, _⟩ := h
  obtain ⟨ga, ta, ca, fa, pa, a1, a2, a3, a4⟩ := laid_nth hv 8 X3 x3
  obtain rfl := Option.some.inj (g3.symm.trans a1)
  obtain rfl := Option.some.inj (t3.symm.trans a2)
  rw [dx3] at a4
  have ea := Lib.cells_of_tab Tryz.underlying108 Tryz.underlying44 c27 c85 a4
  have et : tens = Lib.pow10Tab := by decide
  unfold Lib.TabIs
  rw [a3, ← et, ← ea]

/-- The word of a value. -/
def ShowIs (v : Vl) (s : List UInt8) : Prop :=
  (v.kind = 1 ∧ s = Lib.itoa v.num) ∨ (v.kind = 2 ∧ ∃ t, s = 102 :: t ∧ TextOf (canonW (wordOf v.num)) t) ∨ (v.kind = 3 ∧ s = 39 :: v.text) ∨ (v.kind ≠ 1 ∧ v.kind ≠ 2 ∧ v.kind ≠ 3 ∧ s = [110, 117, 108, 108])
theorem ShowIs.one {v : Vl} {s t : List UInt8} (h : ShowIs v s) (k : ShowIs v t) : s = t := by
  rcases h with ⟨h1, h2⟩ | ⟨h1, a, h2, h3⟩ | ⟨h1, h2⟩ | ⟨h1, h2, h3, h4⟩ <;> rcases k with ⟨k1, k2⟩ | ⟨k1, b, k2, k3⟩ | ⟨k1, k2⟩ | ⟨k1, k2, k3, k4⟩
  all_goals first
    | (rw [h2, k2]; done)
    | (rw [h4, k4]; done)
    | (rw [h2, k2, h3.one k3]; done)
    | (exfalso; omega)

theorem itoa_any (n : Int) (hn : I64 n) (w : World) (hW : WordsM w) :
    Calls Tryz.prog 14 #[.int .i64 n] w fun e w' => e = .returned (.string ⟨(Lib.itoa n).toArray⟩) ∧ Below w.heap.size w w' := by
  unfold I64 at hn
  refine (Any.strconv_Itoa Tryz.laysM171 n (by omega) (by omega) w hW.itab).mono ?_
  rintro e w' ⟨rfl, k, os, rfl⟩
  exact ⟨rfl, Lib.below_grow _ w (Nat.le_refl _) k os⟩

section
variable (v : Vl) (hv : v.Ok) (ht : v.text.length ≤ 200) (w : World) (hW : WordsM w)
include hv ht hW
set_option maxRecDepth 100000 in
set_option maxHeartbeats 1600000 in
theorem vshow_any : Calls Tryz.prog 6 #[v.val] w fun e w' => ∃ s, e = .returned (.string ⟨s.toArray⟩) ∧ ShowIs v s ∧ Below w.heap.size w w' := by
  obtain ⟨k, n, t⟩ := v
  have hn := hv.num
  simp only at ht hn
  have hb := below_box w (.cells #[.int .i64 k, .int .i64 n, .string ⟨t.toArray⟩] 23)
  have hW1 := hW.below hb
  clear hv hW
  show Calls _ _ #[.agg #[.int .i64 k, .int .i64 n, .string ⟨t.toArray⟩]] w _
  by_cases h1 : k = 1
  · subst h1
    go_enter Tryz.func6, Tryz.ntmps6
    go_wp2_with fail
    refine (itoa_any n hn _ hW1).mono ?_
    rintro e w1 ⟨rfl, b1⟩
    go_wp2_with fail
    go_ret
    exact ⟨_, rfl, .inl ⟨rfl, rfl⟩, below_in hb b1⟩
  by_cases h2 : k = 2
  · subst h2
    obtain ⟨hH, gT, oT, B, blk, po, hM⟩ := hW1.tx
    have hT := text_any n _ hM.pow hM.tab
    go_enter Tryz.func6, Tryz.ntmps6
    go_wp2_with fail
    refine hT.mono ?_
    rintro e w1 ⟨s, rfl, hs, b1⟩
    have hl := textOf_len hs
    go_wp2_with fail
    go_ret
    exact ⟨102 :: s, rfl, .inr (.inl ⟨rfl, s, rfl, hs⟩), below_in hb b1⟩
  by_cases h3 : k = 3
  · subst h3
    go_enter Tryz.func6, Tryz.ntmps6
    go_wp2_with fail
    go_ret
    exact ⟨39 :: t, rfl, .inr (.inr (.inl ⟨rfl, rfl⟩)), hb⟩
  · go_enter Tryz.func6, Tryz.ntmps6
    go_wp2_with fail
    go_ret
    exact ⟨[110, 117, 108, 108], rfl, .inr (.inr (.inr ⟨h1, h2, h3, rfl⟩)), hb⟩

set_option maxRecDepth 100000 in
set_option maxHeartbeats 1600000 in
theorem rshow_any : Calls Tryz.prog 7 #[v.val] w fun e w' => ∃ s, e = .returned (.string ⟨s.toArray⟩) ∧ ShowIs v s ∧ Below w.heap.size w w' := by
  obtain ⟨k, n, t⟩ := v
  have hn := hv.num
  simp only at ht hn
  have hb := below_box w (.cells #[.int .i64 k, .int .i64 n, .string ⟨t.toArray⟩] 23)
  have hW1 := hW.below hb
  clear hv hW
  show Calls _ _ #[.agg #[.int .i64 k, .int .i64 n, .string ⟨t.toArray⟩]] w _
  by_cases h1 : k = 1
  · subst h1
    go_enter Tryz.func7, Tryz.ntmps7
    go_wp2_with fail
    refine (itoa_any n hn _ hW1).mono ?_
    rintro e w1 ⟨rfl, b1⟩
    go_wp2_with fail
    go_ret
    exact ⟨_, rfl, .inl ⟨rfl, rfl⟩, below_in hb b1⟩
  by_cases h2 : k = 2
  · subst h2
    obtain ⟨hH, gT, oT, B, blk, po, hM⟩ := hW1.tx
    obtain ⟨c, hc⟩ : ∃ c, canonW (wordOf n) = c := ⟨_, rfl⟩
    have hcc : canonW c = c := by rw [← hc]; exact canonW_idem _
    have hcl : c < 18446744073709551616 := by rw [← hc]; exact canonW_lt (wordOf_lt _)
    have hwk : wordOf (canonI (wordOf n)) = c := by rw [wordOf_canonI (wordOf_lt _), hc]
    have hT := strFormatFloat_any _ hM.pow hM.tab (wordOf (canonI (wordOf n))) (by rw [hwk]; exact hcl)
    have HC := Lib.hid hc
    have HK := Lib.hid hwk
    clear hM hW1 hH hcc hcl hc hwk hn ht
    go_enter Tryz.func7, Tryz.ntmps7
    go_wp2_with (first | (go_at_call 17; refine (refOf_any _ _).mono ?_; rintro e w' ⟨rfl, rfl⟩) | (go_at_call 18; refine (refKept_any _ _).mono ?_; rintro e w' ⟨rfl, rfl⟩))
    refine hT.mono ?_
    rintro e w1 ⟨s, rfl, hs, b1⟩
    rw [HK.out] at hs
    have hl := textOf_len hs
    go_wp2_with fail
    go_ret
    exact ⟨102 :: s, rfl, .inr (.inl ⟨rfl, s, rfl, HC.out ▸ hs⟩), below_in hb b1⟩
  by_cases h3 : k = 3
  · subst h3
    go_enter Tryz.func7, Tryz.ntmps7
    go_wp2_with fail
    go_ret
    exact ⟨39 :: t, rfl, .inr (.inr (.inl ⟨rfl, rfl⟩)), hb⟩
  · go_enter Tryz.func7, Tryz.ntmps7
    go_wp2_with fail
    go_ret
    exact ⟨[110, 117, 108, 108], rfl, .inr (.inr (.inr ⟨h1, h2, h3, rfl⟩)), hb⟩
end
end Go.Proofs.YtkaeaiagmihmgaaGreatDoor
