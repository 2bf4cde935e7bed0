/- strconv's atof64 at a float's text: that float. -/
/- strconv's atof64 at the text of whatever float. -/
/- strconv.ParseFloat and real.Parse at the text of whatever float. -/
import Derived.Test.YtkaeaiagmihmgaaGreatDoorQFyY
import Derived.Test.YtkaeaiagmihmgaaGreatDoorQFyI
import Derived.Test.YtkaeaiagmihmgaaGreatDoorQFyX
namespace Go.Proofs.YtkaeaiagmihmgaaGreatDoor
open Go.RowKit Go.Sort

theorem pack_word {neg : Bool} {m : Nat} {e : Int} (m2 : m < 9007199254740992) (e1 : -1074 ≤ e) (e2 : e ≤ 971) (sub : m < 4503599627370496 → e = -1074) : packW neg m e = Ieee.double.word neg (rungOf m e) := by
  have hs : Ieee.double.word neg (rungOf m e) = sgn neg + rungOf m e := by
    have h1 : Ieee.double.signWeight = 9223372036854775808 := by decide
    unfold Ieee.Format.word sgn
    cases neg <;> simp [h1]
  rw [hs]
  unfold packW rungOf
  by_cases h : m < 4503599627370496
  · rw [if_pos h, sub h]
    omega
  · rw [if_neg h, if_neg (by omega)]
    omega
theorem cpl_zero {a : UInt8} {r : List UInt8} (h : isDig a) : cpl (a :: r) infT = 0 := by
  unfold isDig at h
  unfold infT cpl
  rw [if_neg (by unfold lowC; rw [if_neg (by omega)]; show ¬ a.toNat = 105; omega)]
/-- A text that begins with a digit, or with a sign and a digit, is none of the special ones. -/
theorem spec_none {b : List UInt8} (neg : Bool) (h0 : 0 < b.length) (h : isDig (b.getD 0 0)) : spec (sg neg ++ b) = none := by
  match b, h0 with
  | a :: r, _ =>
    have h' : isDig a := h
    have hz := cpl_zero (r := r) h'
    unfold isDig at h'
    cases neg with
    | true =>
      show specN true 1 (cpl (a :: r) infT) = none
      rw [hz]
      rfl
    | false =>
      show (if a.toNat = 43 then specN false 1 (cpl r infT) else if a.toNat = 45 then specN true 1 (cpl r infT) else if a.toNat = 105 ∨ a.toNat = 73 then specN false 0 (cpl (a :: r) infT) else if a.toNat = 110 ∨ a.toNat = 78 then (if cpl (a :: r) nanT = 3 then some (9221120237041090561, 3) else none) else none) = none
      rw [if_neg (by omega), if_neg (by omega), if_neg (by omega), if_neg (by omega)]
/-- A number's text: a sign, then a digit; not long. -/
theorem num_head {neg : Bool} {m : Nat} {e : Int} {t : List UInt8} (h : TextNum neg m e t) : ∃ b, t = sg neg ++ b ∧ 0 < b.length ∧ isDig (b.getD 0 0) := by
  obtain ⟨k, d, p, ds, dp, a1, a2, a3, a4, rfl⟩ := h
  obtain ⟨z, hD, _⟩ := digits_digs a4
  have hf := hD.first
  have l1 := hD.one
  refine ⟨if dp < -3 ∨ 7 ≤ dp then textE ds dp else textF ds dp, rfl, ?_⟩
  by_cases hE : dp < -3 ∨ 7 ≤ dp
  · rw [if_pos hE]
    exact ⟨by unfold textE; simp, hf⟩
  · rw [if_neg hE]
    unfold textF
    by_cases hp : 0 < dp
    · rw [if_pos hp]
      have ht : 0 < (ds.take dp.toNat).length := by rw [List.length_take]; omega
      refine ⟨by rw [List.length_append]; omega, ?_⟩
      rw [List.getD_eq_getElem?_getD, List.getElem?_append_left ht, List.getElem?_take, if_pos (by omega), ← List.getD_eq_getElem?_getD]
      exact hf
    · rw [if_neg hp]
      exact ⟨by simp, by show 48 ≤ (48 : UInt8).toNat; decide, by show (48 : UInt8).toNat ≤ 57; decide⟩

set_option maxRecDepth 100000 in
set_option maxHeartbeats 3200000 in
theorem atof64_num (w : World) (g o : Nat) (hP : PowTab w) (hT : TenFs w g o) (hO : w.cell? ⟨1, 0, none⟩ = some (.bool true)) (neg : Bool) (m : Nat) (e : Int) (t : List UInt8) (hl : t.length ≤ 100) (hN : TextNum neg m e t)
    (m1 : 1 ≤ m) (m2 : m < 9007199254740992) (e1 : -1074 ≤ e) (e2 : e ≤ 971) (sub : m < 4503599627370496 → e = -1074) :
    Calls Tryz.prog 122 #[.string ⟨t.toArray⟩] w fun x w' => x = .returned (.tuple #[.float .f64 (Ieee.double.word neg (rungOf m e)), .int .i64 t.length, .nilIface]) ∧ Below w.heap.size w w' := by
  obtain ⟨M, E, hR, hM0, hM, hE1, hE2, HI⟩ := num_read hN m1 m2 e1 e2 sub
  obtain ⟨b, hb, hb0, hbd⟩ := num_head hN
  have hsp : spec t = none := by rw [hb]; exact spec_none neg hb0 hbd
  have hspec := special_any t hl w
  rw [hsp] at hspec
  have hread := readFloat_any t (by omega) w
  have hex := exact_any w g o hT M E neg hM0 (by omega)
  have HJ := Lib.hid HI
  have HRd := Lib.hid hR
  obtain ⟨L, hL⟩ : ∃ L, Lib.bitLen M = L := ⟨_, rfl⟩
  obtain ⟨n1, n2, n3, n4⟩ := norm_any hM0 (by omega) hL
  have hL57 : L ≤ 57 := by
    rcases Nat.lt_or_ge L 58 with h | h
    · omega
    · exfalso
      have c1 : 2 ^ (64 - L) ≤ 2 ^ 6 := Nat.pow_le_pow_right (by decide) (by omega)
      have c2 := Nat.mul_le_mul (Nat.le_of_lt hM) c1
      omega
  obtain ⟨s1, s2, s3, s4⟩ := parse_spec (by omega) (by omega) hL57 n3 n4 HI.m1 HI.m2 HI.e1 HI.sub HI.hh HI.hh2 HI.lo HI.hi
  have hpar := parse64_in w hP neg M E L hM0 (by omega) hL (by omega) (by omega) s2 (by rw [s3]; exact m2) (by rw [s4]; exact e1) (by rw [s4]; omega)
  rw [s3, s4, pack_word m2 e1 e2 sub] at hpar
  have z1 : ((M : Int) == 0) = false := by simp; omega
  have z2 : decide ((310 : Int) < E) = false := by simp; omega
  have z3 : decide (E < (-345 : Int)) = false := by simp; omega
  clear hR HI hb hbd hb0 hsp hP n1 n2 n3 n4 s1 s2 s3 s4 hN hL hL57
  obtain ⟨F, hF⟩ : ∃ F, Ieee.double.word neg (rungOf m e) = F := ⟨_, rfl⟩
  rw [hF] at hpar ⊢
  have HFW := Lib.hid hF
  clear hF
  go_enter Tryz.func122, Tryz.ntmps122
  go_wp2_with fail
  refine hspec.mono ?_
  rintro e w' ⟨rfl, hw'⟩
  obtain rfl : w = w' := hw'
  unfold specRes
  go_wp2_with fail
  refine hread.mono ?_
  rintro e w' ⟨hp, hw'⟩
  obtain rfl : w = w' := hw'
  rcases hp with ⟨hn, _⟩ | ⟨o, ok, ho, hok, rfl⟩
  · exact absurd (hn.symm.trans HRd.out) (by simp)
  · have hoe := Option.some.inj (ho.symm.trans HRd.out)
    subst hoe
    obtain rfl : ok = true := hok rfl
    clear ho hok
    simp only
    cases neg with
    | false =>
      go_wp2_with fail
      refine (bool2u_0 _ rfl w).mono ?_
      rintro e w' ⟨rfl, hw'⟩
      obtain rfl : w = w' := hw'
      go_wp2_with fail
      refine hex.mono ?_
      rintro x w' ⟨f, ok, rfl, hw', hf⟩
      obtain rfl : w = w' := hw'
      cases ok with
      | true =>
        have hff := (hf rfl).2 _ _ _ HJ.out
        rw [HFW.out] at hff
        subst hff
        go_wp2_with fail
        go_ret3
        exact ⟨rfl, Below.refl _ _⟩
      | false =>
        clear hf
        go_wp2_with fail
        refine hpar.mono ?_
        rintro x w' ⟨rfl, hbel⟩
        go_wp2_with fail
        go_ret3
        exact ⟨rfl, hbel⟩
    | true =>
      go_wp2_with fail
      refine (bool2u_1 _ rfl w).mono ?_
      rintro e w' ⟨rfl, hw'⟩
      obtain rfl : w = w' := hw'
      go_wp2_with fail
      refine hex.mono ?_
      rintro x w' ⟨f, ok, rfl, hw', hf⟩
      obtain rfl : w = w' := hw'
      cases ok with
      | true =>
        have hff := (hf rfl).2 _ _ _ HJ.out
        rw [HFW.out] at hff
        subst hff
        go_wp2_with fail
        go_ret3
        exact ⟨rfl, Below.refl _ _⟩
      | false =>
        clear hf
        go_wp2_with fail
        refine hpar.mono ?_
        rintro x w' ⟨rfl, hbel⟩
        go_wp2_with fail
        go_ret3
        exact ⟨rfl, hbel⟩
end Go.Proofs.YtkaeaiagmihmgaaGreatDoor

namespace Go.Proofs.YtkaeaiagmihmgaaGreatDoor
open Go.RowKit Go.Sort

theorem rfM_zero (neg : Bool) : rfM (sg neg ++ [48]) = some ⟨0, 0, neg, false, false, (sg neg ++ [48]).length, false⟩ := by cases neg <;> rfl
theorem spec_nan : spec [78, 97, 78] = some (9221120237041090561, 3) := rfl
theorem spec_inf (neg : Bool) : spec (if neg then [45, 73, 110, 102] else [43, 73, 110, 102]) = some (sgn neg + 9218868437227405312, 4) := by cases neg <;> rfl

set_option maxRecDepth 100000 in
set_option maxHeartbeats 800000 in
theorem atof64_special (w : World) (t : List UInt8) (hl : t.length ≤ 100) (f n : Nat) (hs : spec t = some (f, n)) :
    Calls Tryz.prog 122 #[.string ⟨t.toArray⟩] w fun x w' => x = .returned (.tuple #[.float .f64 f, .int .i64 n, .nilIface]) ∧ Below w.heap.size w w' := by
  have hspec := special_any t hl w
  rw [hs] at hspec
  unfold specRes at hspec
  go_enter Tryz.func122, Tryz.ntmps122
  go_wp2_with fail
  refine hspec.mono ?_
  rintro e w' ⟨rfl, hw'⟩
  obtain rfl : w = w' := hw'
  go_wp2_with fail
  go_ret3
  exact ⟨rfl, Below.refl _ _⟩

set_option maxRecDepth 100000 in
set_option maxHeartbeats 800000 in
theorem atof64_zero (w : World) (hO : w.cell? ⟨1, 0, none⟩ = some (.bool true)) (neg : Bool) (t : List UInt8) (ht : t = sg neg ++ [48]) :
    Calls Tryz.prog 122 #[.string ⟨t.toArray⟩] w fun x w' => x = .returned (.tuple #[.float .f64 (sgn neg), .int .i64 t.length, .nilIface]) ∧ Below w.heap.size w w' := by
  have hl : t.length ≤ 100 := by rw [ht]; cases neg <;> decide
  have hspec := special_any t hl w
  rw [show spec t = none by rw [ht]; exact spec_none neg (by decide) ⟨by decide, by decide⟩] at hspec
  have hread := readFloat_any t (by omega) w
  have HRd : Hid (rfM t = some ⟨0, 0, neg, false, false, t.length, false⟩) := by show _ = _; rw [ht]; exact rfM_zero neg
  have f1 := frombits'
  have o1 : bits .or .u64 9223372036854775808 0 = ((sgn true : Nat) : Int) := by kernel_rfl
  have o2 : bits .or .u64 0 0 = ((sgn false : Nat) : Int) := by kernel_rfl
  clear ht
  go_enter Tryz.func122, Tryz.ntmps122
  go_wp2_with fail
  refine hspec.mono ?_
  rintro e w' ⟨rfl, hw'⟩
  obtain rfl : w = w' := hw'
  unfold specRes
  go_wp2_with fail
  refine hread.mono ?_
  rintro e w' ⟨hp, hw'⟩
  obtain rfl : w = w' := hw'
  rcases hp with ⟨hn, _⟩ | ⟨o, ok, ho, hok, rfl⟩
  · exact absurd (hn.symm.trans HRd.out) (by simp)
  · have hoe := Option.some.inj (ho.symm.trans HRd.out)
    subst hoe
    obtain rfl : ok = true := hok rfl
    clear ho hok
    simp only
    cases neg with
    | false =>
      go_wp2_with fail
      refine (bool2u_0 _ rfl w).mono ?_
      rintro e w' ⟨rfl, hw'⟩
      obtain rfl : w = w' := hw'
      go_wp2_with fail
      go_ret3
      exact ⟨rfl, Below.refl _ _⟩
    | true =>
      go_wp2_with fail
      refine (bool2u_1 _ rfl w).mono ?_
      rintro e w' ⟨rfl, hw'⟩
      obtain rfl : w = w' := hw'
      go_wp2_with fail
      go_ret3
      exact ⟨rfl, Below.refl _ _⟩

/-- What a word's text is read as: itself; not a number: one of them. -/
def readW (b : Nat) : Nat := if b / 4503599627370496 % 2048 = 2047 ∧ b % 4503599627370496 ≠ 0 then 9221120237041090561 else b
theorem wordSgn (neg : Bool) (r : Nat) : Ieee.double.word neg r = sgn neg + r := by
  have h1 : Ieee.double.signWeight = 9223372036854775808 := by decide
  unfold Ieee.Format.word sgn
  cases neg <;> simp [h1]
theorem sgn_cases (neg : Bool) : sgn neg = 0 ∨ sgn neg = 9223372036854775808 := by cases neg; exact .inl rfl; exact .inr rfl
theorem readW_of {b : Nat} (h : ¬ (b / 4503599627370496 % 2048 = 2047 ∧ b % 4503599627370496 ≠ 0)) : readW b = b := by unfold readW; rw [if_neg h]

theorem atof64_text (w : World) (g o : Nat) (hP : PowTab w) (hT : TenFs w g o) (hO : w.cell? ⟨1, 0, none⟩ = some (.bool true)) (b : Nat) (t : List UInt8) (hl : t.length ≤ 100) (h : TextOf b t) :
    Calls Tryz.prog 122 #[.string ⟨t.toArray⟩] w fun x w' => x = .returned (.tuple #[.float .f64 (readW b), .int .i64 t.length, .nilIface]) ∧ Below w.heap.size w w' := by
  rcases h with ⟨h1, h2, rfl⟩ | ⟨neg, h⟩
  · have e : readW b = 9221120237041090561 := by unfold readW; rw [if_pos ⟨h1, h2⟩]
    rw [e]
    exact atof64_special w _ hl _ 3 spec_nan
  · have hsg := sgn_cases neg
    rcases h with ⟨rfl, rfl⟩ | ⟨rfl, rfl⟩ | ⟨m, h1, h2, rfl, h3⟩ | ⟨ex, mt, h1, h2, h3, rfl, h4⟩
    · rw [readW_of (by rintro ⟨_, h⟩; exact h (by omega))]
      have := atof64_special w _ hl _ 4 (spec_inf neg)
      have e : (if neg = true then [45, 73, 110, 102] else [43, 73, 110, 102] : List UInt8).length = 4 := by cases neg <;> rfl
      rw [e]
      exact this
    · rw [readW_of (by rintro ⟨_, h⟩; exact h (by omega))]
      exact atof64_zero w hO neg _ rfl
    · rw [readW_of (by rintro ⟨h, _⟩; omega)]
      have := atof64_num w g o hP hT hO neg m (-1074) t hl h3 h1 (by omega) (by omega) (by omega) (fun _ => rfl)
      rw [wordSgn, show rungOf m (-1074) = m by unfold rungOf; omega] at this
      exact this
    · rw [readW_of (by rintro ⟨h, _⟩; omega)]
      have := atof64_num w g o hP hT hO neg (mt + 4503599627370496) ((ex : Int) - 1075) t hl h4 (by omega) (by omega) (by omega) (by omega) (fun h => by omega)
      rw [wordSgn, show sgn neg + rungOf (mt + 4503599627370496) ((ex : Int) - 1075) = sgn neg + ex * 4503599627370496 + mt by unfold rungOf; omega] at this
      exact this
end Go.Proofs.YtkaeaiagmihmgaaGreatDoor

namespace Go.Proofs.YtkaeaiagmihmgaaGreatDoor
open Go.RowKit Go.Sort

section
variable (w : World) (g o : Nat) (hP : PowTab w) (hT : TenFs w g o) (hO : w.cell? ⟨1, 0, none⟩ = some (.bool true)) (b : Nat) (t : List UInt8) (hl : t.length ≤ 100) (h : TextOf b t)
include hP hT hO hl h
set_option maxRecDepth 100000 in
set_option maxHeartbeats 800000 in
theorem parsePrefix_text :
    Calls Tryz.prog 105 #[.string ⟨t.toArray⟩, .int .i64 64] w fun x w' => x = .returned (.tuple #[.float .f64 (readW b), .int .i64 t.length, .nilIface]) ∧ Below w.heap.size w w' := by
  have hA := atof64_text w g o hP hT hO b t hl h
  generalize readW b = f at *
  go_enter Tryz.func105, Tryz.ntmps105
  go_wp2_with fail
  refine hA.mono ?_
  rintro e w' ⟨rfl, hb⟩
  go_wp2_with fail
  go_ret3
  exact ⟨rfl, hb⟩
set_option maxRecDepth 100000 in
set_option maxHeartbeats 800000 in
theorem iparse_text :
    Calls Tryz.prog 71 #[.string ⟨t.toArray⟩, .int .i64 64] w fun x w' => x = .returned (.tuple #[.float .f64 (readW b), .nilIface]) ∧ Below w.heap.size w w' := by
  have hA := parsePrefix_text w g o hP hT hO b t hl h
  generalize readW b = f at *
  go_enter Tryz.func71, Tryz.ntmps71
  go_wp2_with fail
  refine hA.mono ?_
  rintro e w' ⟨rfl, hb⟩
  go_wp2_with fail
  go_ret2
  exact ⟨rfl, hb⟩
set_option maxRecDepth 100000 in
set_option maxHeartbeats 800000 in
theorem parseFloat_text :
    Calls Tryz.prog 44 #[.string ⟨t.toArray⟩, .int .i64 64] w fun x w' => x = .returned (.tuple #[.float .f64 (readW b), .nilIface]) ∧ Below w.heap.size w w' := by
  have hA := iparse_text w g o hP hT hO b t hl h
  generalize readW b = f at *
  go_enter Tryz.func44, Tryz.ntmps44
  go_wp2_with fail
  refine hA.mono ?_
  rintro e w' ⟨rfl, hb⟩
  go_wp2_with fail
  go_ret2
  exact ⟨rfl, hb⟩
end

theorem canon_read {c : Nat} (hc : canonW c = c) : canonW (readW c) = c := by
  unfold readW
  split
  · rename_i h
    have hn : nanB c = true := by unfold nanB; simp; omega
    have e : canonW c = 9221120237041090560 := by unfold canonW; rw [if_pos hn]
    rw [← hc, e]
    decide
  · exact hc

set_option maxRecDepth 100000 in
set_option maxHeartbeats 800000 in
theorem parse_text (w : World) (g o : Nat) (hP : PowTab w) (hT : TenFs w g o) (hT2 : TenTab w) (hO : w.cell? ⟨1, 0, none⟩ = some (.bool true)) (c : Nat) (hc : canonW c = c) (hc2 : c < 18446744073709551616) (t : List UInt8) (hl : t.length ≤ 24) (h : TextOf c t) :
    Calls Tryz.prog 36 #[.string ⟨t.toArray⟩] w fun x w' => x = .returned (.tuple #[.int .i64 (canonI c), .int .i64 0]) ∧ Below w.heap.size w w' := by
  have hA := parseFloat_text w g o hP hT hO c t (by omega) h
  have hl' : decide ((24 : Int) < (t.length : Int)) = false := by simp; omega
  have hci : canonI (readW c) = canonI c := by unfold canonI; rw [canon_read hc, hc]
  go_enter Tryz.func36, Tryz.ntmps36
  go_wp2_with fail
  refine hA.mono ?_
  rintro e w1 ⟨rfl, b1⟩
  go_wp2_with fail
  refine (canon_any _ _).mono ?_
  rintro e w' ⟨rfl, hw'⟩
  obtain rfl : w1 = w' := hw'
  rw [hci]
  go_wp2_with fail
  refine (text_any (canonI c) w1 (hP.below b1) (hT2.below b1)).mono ?_
  rintro e w2 ⟨t', rfl, ht', b2⟩
  rw [wordOf_canonI hc2, hc, hc] at ht'
  obtain rfl : t = t' := h.one ht'
  have b3 : Below w.heap.size w w2 := b1.trans (b2.mono b1.size)
  clear ht' hci
  go_wp2_with fail
  go_ret2
  exact ⟨rfl, b3⟩
end Go.Proofs.YtkaeaiagmihmgaaGreatDoor
