/- strconv's atof64 returns, whatever short text it is given. -/
/- strconv.ParseFloat and real.Parse, whatever text they are given. -/
import Derived.Test.YtkaeaiagmihmgaaGreatDoorQFyA
import Derived.Test.YtkaeaiagmihmgaaGreatDoorQFyL
import Derived.Test.YtkaeaiagmihmgaaGreatDoorQFzF
import Derived.Test.YtkaeaiagmihmgaaGreatDoorQDcZ
namespace Go.Proofs.YtkaeaiagmihmgaaGreatDoor
open Go.RowKit Go.Sort

/-- A float, a place, and no error or one of the two. -/
def FinA (x : Ending) : Prop := ∃ (f : Nat) (n : Int) (e : Value), f < 18446744073709551616 ∧ x = .returned (.tuple #[.float .f64 f, .int .i64 n, e]) ∧ (e = .nilIface ∨ e = errI 1 ∨ e = errI 2)
theorem zero_dec : Tryz.zeroCells96 = ((List.replicate 800 (Value.int .u8 0)) ++ [Value.int .i64 0, Value.int .i64 0, Value.bool false, Value.bool false]).toArray := by kernel_rfl
theorem zero_at {z : Array Value} {n : Nat} {v : Value} {l : List Value} (h : z = (List.replicate n v ++ l).toArray) : z.size = n + l.length ∧ (∀ i, i < n → z[i]? = some v) ∧ ∀ i, z[n + i]? = l[i]? := by
  subst h
  refine ⟨by simp, fun i hi => ?_, fun i => ?_⟩
  · rw [List.getElem?_toArray, List.getElem?_append_left (by simpa using hi), List.getElem?_replicate, if_pos hi]
  · rw [List.getElem?_toArray, List.getElem?_append_right (by simp)]
    simp
/-- A decimal that has just been made. -/
theorem dec_fresh (w : World) : Dec (w.alloc (.cells Tryz.zeroCells96 96)) w.heap.size (fun _ => 0) ((0 : Nat) : Int) 0 false false := by
  obtain ⟨h1, h2, h3⟩ := zero_at zero_dec
  exact ⟨_, At.fresh w _ _, h1, h2, h3 0, h3 1, h3 2, h3 3⟩
theorem below_grown {w w1 w2 : World} {g : Nat} (h : Below w.heap.size w w1) (k : w1.grownBy w2 (some g)) (hg : w.heap.size ≤ g) : Below w.heap.size w w2 :=
  ⟨k.os.trans h.os, k.tape.trans h.tape, k.output.trans h.output, Nat.le_trans h.size k.size, fun i hi => (k.block i (Nat.lt_of_lt_of_le hi h.size) (by simp; omega)).trans (h.block i hi)⟩
theorem Road.below {w w' : World} {B blk po fb : Nat} (h : Road w B blk po fb) (hb : Below w.heap.size w w') (hB : B ≤ w.heap.size) : Road w' B blk po fb :=
  ⟨h.cheats.keep fun _ hp => hb.cell (Nat.lt_of_lt_of_le hp hB), h.pows.keep fun _ hp => hb.cell (Nat.lt_of_lt_of_le hp hB), h.shape.keep (hb.block fb (Nat.lt_of_lt_of_le h.fb hB)), h.fb⟩
theorem sgn_small (neg : Bool) (M : Nat) (h : M < 9223372036854775808) : sgn neg + M < 18446744073709551616 := by cases neg <;> simp [sgn] <;> omega
theorem specN_lt {neg : Bool} {z n f k : Nat} (h : specN neg z n = some (f, k)) : f < 18446744073709551616 := by
  unfold specN at h
  have hl := sgn_small neg 9218868437227405312 (by decide)
  split at h
  · cases h; exact hl
  · split at h
    · cases h; exact hl
    · cases h
theorem spec_lt : ∀ {s : List UInt8} {f k : Nat}, spec s = some (f, k) → f < 18446744073709551616
  | [], _, _, h => by cases h
  | a :: r, f, k, h => by
    change (if a.toNat = 43 then specN false 1 (cpl r infT) else if a.toNat = 45 then specN true 1 (cpl r infT) else if a.toNat = 105 ∨ a.toNat = 73 then specN false 0 (cpl (a :: r) infT)
      else if a.toNat = 110 ∨ a.toNat = 78 then (if cpl (a :: r) nanT = 3 then some (9221120237041090561, 3) else none) else none) = some (f, k) at h
    by_cases h1 : a.toNat = 43
    · rw [if_pos h1] at h; exact specN_lt h
    rw [if_neg h1] at h
    by_cases h2 : a.toNat = 45
    · rw [if_pos h2] at h; exact specN_lt h
    rw [if_neg h2] at h
    by_cases h3 : a.toNat = 105 ∨ a.toNat = 73
    · rw [if_pos h3] at h; exact specN_lt h
    rw [if_neg h3] at h
    by_cases h4 : a.toNat = 110 ∨ a.toNat = 78
    · rw [if_pos h4] at h
      by_cases h5 : cpl (a :: r) nanT = 3
      · rw [if_pos h5] at h; cases h; decide
      · rw [if_neg h5] at h; cases h
    · rw [if_neg h4] at h; cases h
theorem bool2u_any (neg : Bool) (w : World) : Calls Tryz.prog 118 #[.bool neg] w fun e w' => e = .returned (.int .u64 ((if neg then 1 else 0 : Nat) : Int)) ∧ w = w' := by
  cases neg
  · exact bool2u_0 _ rfl w
  · exact bool2u_1 _ rfl w
theorem shl_sgn (neg : Bool) : IntKind.u64.wrap (((if neg then 1 else 0 : Nat) : Int) * 9223372036854775808) = ((sgn neg : Nat) : Int) := by cases neg <;> rfl

set_option maxRecDepth 100000 in
set_option maxHeartbeats 6400000 in
theorem atof64_any (w : World) (gT oT B blk po : Nat) (hP : PowTab w) (hT : TenFs w gT oT) (hO : w.cell? ⟨1, 0, none⟩ = some (.bool true)) (hI : Info64 w) (hR : Road w B blk po 13) (hB : B ≤ w.heap.size)
    (s : List UInt8) (hs : s.length ≤ 100) :
    Calls Tryz.prog 122 #[.string ⟨s.toArray⟩] w fun x w' => FinA x ∧ Below w.heap.size w w' := by
  have f1 := frombits'
  have hspec := special_any s hs w
  have hread := readFloat_any s (by omega) w
  have hfine := fun o h => rfM_fine (s := s) (o := o) h (by omega)
  have hOl := World.block_lt_of_cell? w _ hO
  go_enter Tryz.func122, Tryz.ntmps122
  go_wp2_with fail
  refine hspec.mono ?_
  rintro e w' ⟨rfl, hw'⟩
  obtain rfl : w = w' := hw'
  cases hsp : spec s with
  | some q =>
    obtain ⟨f, n⟩ := q
    have hfl := spec_lt hsp
    simp only [specRes]
    go_wp2_with fail
    go_ret3
    exact ⟨⟨_, _, _, hfl, rfl, .inl rfl⟩, Below.refl _ _⟩
  | none =>
  simp only [specRes]
  clear hsp hspec
  go_wp2_with fail
  refine hread.mono ?_
  rintro e w' ⟨hp, hw'⟩
  obtain rfl : w = w' := hw'
  clear hread
  rcases hp with ⟨_, m, i, ex, neg, tr, hex, rfl⟩ | ⟨o, ok, ho, _, rfl⟩
  · go_wp2_with fail
    go_ret3
    exact ⟨⟨0, _, _, by decide, rfl, .inr (.inr rfl)⟩, Below.refl _ _⟩
  have hf := hfine o ho
  obtain ⟨M, ex, neg, tr, hex, i, us⟩ := o
  obtain ⟨hm, hten, hlo, hhi, hi⟩ := hf
  clear hfine ho
  simp only at hm hten hlo hhi hi ⊢
  cases ok with
  | false =>
    go_wp2_with fail
    go_ret3
    exact ⟨⟨0, _, _, by decide, rfl, .inr (.inr rfl)⟩, Below.refl _ _⟩
  | true =>
  have e1 : (ByteArray.mk s.toArray).extract 0 i = ⟨(s.take i).toArray⟩ := extract_take s i
  have i1 : (0 : Int) ≤ (i : Int) := by omega
  have i2 : (i : Int) ≤ (s.length : Int) := by omega
  cases hex with
  | true =>
    clear hten
    go_wp2_with fail
    refine (atofHex_any w hI _ M ex neg tr hm (by omega) (by omega)).mono ?_
    rintro x w2 ⟨f, err, hfl, rfl, he, hb⟩
    rcases he with rfl | rfl
    · go_wp2_with fail
      go_ret3
      exact ⟨⟨_, _, _, hfl, rfl, .inl rfl⟩, hb⟩
    · go_wp2_with fail
      go_ret3
      exact ⟨⟨_, _, _, hfl, rfl, .inr (.inl rfl)⟩, hb⟩
  | false =>
  replace hten := hten rfl
  have hbn := bool2u_any neg
  have hsh := shl_sgn neg
  have hor := or_sign (neg := neg) (M := 0) (by omega)
  rw [Nat.add_zero, show ((0 : Nat) : Int) = 0 from rfl] at hor
  have hor2 := or_sign (neg := neg) (M := 9218868437227405312) (by omega)
  have hl0 := sgn_small neg 0 (by omega)
  have hl2 := sgn_small neg 9218868437227405312 (by omega)
  obtain ⟨q2, hq2⟩ : ∃ q, sgn neg + 9218868437227405312 = q := ⟨_, rfl⟩
  rw [show ((9218868437227405312 : Nat) : Int) = 9218868437227405312 from rfl, hq2] at hor2
  rw [hq2] at hl2
  clear hq2
  by_cases hM0 : M = 0
  · subst hM0
    generalize sgn neg = sg at *
    generalize (if neg then 1 else 0 : Nat) = bn at *
    go_wp2_with fail
    refine (hbn _).mono ?_
    rintro e w' ⟨rfl, hw'⟩
    obtain rfl : w = w' := hw'
    go_wp2_with fail
    go_ret3
    exact ⟨⟨_, _, _, hl0, rfl, .inl rfl⟩, Below.refl _ _⟩
  have hMz : ((M : Int) == 0) = false := by simp; omega
  by_cases h310 : 310 < ex
  · have z1 : decide (310 < ex) = true := by simpa using h310
    generalize sgn neg = sg at *
    generalize (if neg then 1 else 0 : Nat) = bn at *
    go_wp2_with fail
    refine (hbn _).mono ?_
    rintro e w' ⟨rfl, hw'⟩
    obtain rfl : w = w' := hw'
    go_wp2_with fail
    go_ret3
    exact ⟨⟨_, _, _, hl2, rfl, .inr (.inl rfl)⟩, Below.refl _ _⟩
  have z1 : decide (310 < ex) = false := by simpa using h310
  by_cases h345 : ex < -345
  · have z2 : decide (ex < -345) = true := by simpa using h345
    generalize sgn neg = sg at *
    generalize (if neg then 1 else 0 : Nat) = bn at *
    go_wp2_with fail
    refine (hbn _).mono ?_
    rintro e w' ⟨rfl, hw'⟩
    obtain rfl : w = w' := hw'
    go_wp2_with fail
    go_ret3
    exact ⟨⟨_, _, _, hl0, rfl, .inl rfl⟩, Below.refl _ _⟩
  have z2 : decide (ex < -345) = false := by simpa using h345
  have hex := exact_any w gT oT hT M ex neg (by omega) hm
  have hp1 := fun w1 (b1 : Below w.heap.size w w1) => parse64_any w1 (hP.below b1) neg M ex (by omega) hm (by omega) (by omega)
  have hp2 := fun w1 (b1 : Below w.heap.size w w1) => parse64_any w1 (hP.below b1) neg (M + 1) ex (by omega) (by omega) (by omega) (by omega)
  clear hor2 hl2 hM0 h310 h345
  generalize sgn neg = sg at *
  generalize (if neg then 1 else 0 : Nat) = bn at *
  cases tr with
  | false =>
    go_wp2_with fail
    refine (hbn _).mono ?_
    rintro e w' ⟨rfl, hw'⟩
    obtain rfl : w = w' := hw'
    go_wp2_with fail
    refine hex.mono ?_
    rintro x w' ⟨f, ok, rfl, hw', hf⟩
    obtain rfl : w = w' := hw'
    cases ok with
    | true =>
      have hfl := (hf rfl).1
      clear hf
      go_wp2_with fail
      go_ret3
      exact ⟨⟨_, _, _, hfl, rfl, .inl rfl⟩, Below.refl _ _⟩
    | false =>
      clear hf
      go_wp2_with fail
      refine (hp1 _ (Below.refl _ _)).mono ?_
      rintro x w2 ⟨⟨f2, e2, hfl, rfl, he2⟩, hb2⟩
      go_wp2_with fail
      go_ret3
      exact ⟨⟨f2, _, e2, hfl, rfl, he2.elim .inl (fun h => .inr (.inl h))⟩, hb2⟩
  | true =>
    clear hex
    go_wp2_with fail
    refine (hbn _).mono ?_
    rintro e w' ⟨rfl, hw'⟩
    obtain rfl : w = w' := hw'
    go_wp2_with fail
    refine (hp1 _ (Below.refl _ _)).mono ?_
    rintro x w2 ⟨⟨f2, e2, hfl, rfl, he2⟩, hb2⟩
    have hM1 : IntKind.u64.wrap ((M : Int) + 1) = ((M + 1 : Nat) : Int) := by rw [IntKind.wrap_u64]; omega
    have hp3 := hp2 _ hb2
    generalize hMM : M + 1 = MM at hM1 hp3
    go_wp2_with fail
    refine hp3.mono ?_
    rintro x w3 ⟨⟨f3, e3, -, rfl, -⟩, hb3⟩
    have b3 : Below w.heap.size w w3 := hb2.trans (hb3.mono hb2.size)
    cases hq : (FloatKind.f64.format.order f2 f3 == some Ordering.eq) with
    | true =>
      go_wp2_with fail
      go_ret3
      exact ⟨⟨f2, _, e2, hfl, rfl, he2.elim .inl (fun h => .inr (.inl h))⟩, b3⟩
    | false =>
      clear hp1 hp2 hp3 hbn hor hsh
      go_wp2_with fail
      have hD0 := dec_fresh w3
      have hba : Below w3.heap.size w3 (w3.alloc (.cells Tryz.zeroCells96 96)) := (Below.refl _ _).alloc (Nat.le_refl _) _
      have hb4 : Below w.heap.size w (w3.alloc (.cells Tryz.zeroCells96 96)) := b3.trans (hba.mono b3.size)
      have hR4 := hR.below hb4 hB
      have hBg : B ≤ w3.heap.size := Nat.le_trans hB b3.size
      have hlt4 := hD0.lt
      refine (set_any _ w3.heap.size (s.take i) (by rw [List.length_take]; omega) _ _ _ _ hD0).mono ?_
      clear hD0 hba
      generalize w3.alloc (.cells Tryz.zeroCells96 96) = w4 at *
      rintro e w5 ⟨⟨ok, rfl⟩, ⟨F, n, d, ng, tr, hDec, hN⟩, hG⟩
      have hb5 := below_grown hb4 hG b3.size
      have hR5 := hR4.grown hG hBg hlt4
      cases ok with
      | false =>
        go_wp2_with fail
        go_ret3
        exact ⟨⟨0, _, _, by decide, rfl, .inr (.inr rfl)⟩, hb5⟩
      | true =>
        go_wp2_with fail
        refine (floatBits_any _ B blk po _ _ hBg hR5 F n d ng tr hDec hN).mono ?_
        rintro e w6 ⟨⟨z, ovf, hz, rfl⟩, hG6⟩
        have hb6 := below_grown hb5 hG6 b3.size
        cases ovf with
        | false =>
          go_wp2_with fail
          go_ret3
          exact ⟨⟨z, _, _, hz, rfl, .inl rfl⟩, hb6⟩
        | true =>
          go_wp2_with fail
          go_ret3
          exact ⟨⟨z, _, _, hz, rfl, .inr (.inl rfl)⟩, hb6⟩
end Go.Proofs.YtkaeaiagmihmgaaGreatDoor

namespace Go.Proofs.YtkaeaiagmihmgaaGreatDoor
open Go.RowKit Go.Sort

theorem canonI_canonW (b : Nat) : canonI (canonW b) = canonI b := by unfold canonI; rw [canonW_idem]
/-- What the two errors of package strconv hold. -/
structure Errs (w : World) : Prop where
  syn : ∃ ev, w.cell? ⟨3, 0, none⟩ = some ev ∧ (ev = .nilIface ∨ ∃ te pe, ev = .iface te pe)
  ran : ∃ ev, w.cell? ⟨4, 0, none⟩ = some ev ∧ (ev = .nilIface ∨ ∃ te pe, ev = .iface te pe)
theorem Errs.below {w w' : World} (h : Errs w) (hb : Below w.heap.size w w') : Errs w' := by
  obtain ⟨⟨e, h1, h2⟩, f, h3, h4⟩ := h
  exact ⟨⟨e, (hb.cell (p := ⟨3, 0, none⟩) (World.block_lt_of_cell? w _ h1)).trans h1, h2⟩, f, (hb.cell (p := ⟨4, 0, none⟩) (World.block_lt_of_cell? w _ h3)).trans h3, h4⟩
/-- All that reading a text asks of memory. -/
structure Mem64 (w : World) (gT oT B blk po : Nat) : Prop where
  pow : PowTab w
  ten : TenFs w gT oT
  opt : w.cell? ⟨1, 0, none⟩ = some (.bool true)
  info : Info64 w
  road : Road w B blk po 13
  le : B ≤ w.heap.size
  errs : Errs w
  tab : TenTab w
theorem TenFs.below {w w' : World} {g o : Nat} (h : TenFs w g o) (hb : Below w.heap.size w w') : TenFs w' g o :=
  ⟨(hb.cell (p := ⟨16, 0, none⟩) (World.block_lt_of_cell? w _ h.var)).trans h.var, fun k hk => (hb.cell (p := ⟨g, o + k, none⟩) (World.block_lt_of_cell? w _ (h.row k hk))).trans (h.row k hk),
    (hb.cell (p := ⟨13, 0, none⟩) (World.block_lt_of_cell? w _ h.info)).trans h.info⟩
theorem Info64.below {w w' : World} (h : Info64 w) (hb : Below w.heap.size w w') : Info64 w' := by
  have hl := World.block_lt_of_cell? w _ h.mant
  obtain ⟨c, t, hc⟩ := h.blk
  obtain ⟨d, u, hd⟩ := h.blk32
  have hl2 : (12 : Nat) < w.heap.size := by
    rcases Nat.lt_or_ge (12 : Nat) w.heap.size with h1 | h1
    · exact h1
    · rw [Array.getElem?_eq_none h1] at hd; cases hd
  exact ⟨(hb.cell (p := ⟨13, 0, none⟩) hl).trans h.mant, (hb.cell (p := ⟨13, 1, none⟩) hl).trans h.exp, (hb.cell (p := ⟨13, 2, none⟩) hl).trans h.bias,
    ⟨c, t, (hb.block _ hl).trans hc⟩, ⟨d, u, (hb.block _ hl2).trans hd⟩⟩
theorem Mem64.below {w w' : World} {gT oT B blk po : Nat} (h : Mem64 w gT oT B blk po) (hb : Below w.heap.size w w') : Mem64 w' gT oT B blk po :=
  ⟨h.pow.below hb, h.ten.below hb, (hb.cell (p := ⟨1, 0, none⟩) (World.block_lt_of_cell? w _ h.opt)).trans h.opt, h.info.below hb, h.road.below hb h.le, Nat.le_trans h.le hb.size, h.errs.below hb, h.tab.below hb⟩

/-- A float, and no error or one of the two. -/
def FinP (x : Ending) : Prop := ∃ (f : Nat) (e : Value), f < 18446744073709551616 ∧ x = .returned (.tuple #[.float .f64 f, e]) ∧ (e = .nilIface ∨ e = errI 1 ∨ e = errI 2)
/-- A float, and no error or some error. -/
def FinS (x : Ending) : Prop := ∃ (f : Nat) (e : Value), f < 18446744073709551616 ∧ x = .returned (.tuple #[.float .f64 f, e]) ∧ (e = .nilIface ∨ ∃ t v, e = .iface t v)

section
variable {w : World} {gT oT B blk po : Nat} (hM : Mem64 w gT oT B blk po) (s : List UInt8) (hs : s.length ≤ 100)
include hM hs
set_option maxRecDepth 100000 in
set_option maxHeartbeats 800000 in
theorem parsePrefix_any : Calls Tryz.prog 105 #[.string ⟨s.toArray⟩, .int .i64 64] w fun x w' => FinA x ∧ Below w.heap.size w w' := by
  have hA := atof64_any w gT oT B blk po hM.pow hM.ten hM.opt hM.info hM.road hM.le s hs
  go_enter Tryz.func105, Tryz.ntmps105
  go_wp2_with fail
  refine hA.mono ?_
  rintro e w' ⟨⟨f, n, e', hfl, rfl, he⟩, hb⟩
  go_wp2_with fail
  go_ret3
  exact ⟨⟨f, n, e', hfl, rfl, he⟩, hb⟩
set_option maxRecDepth 100000 in
set_option maxHeartbeats 800000 in
theorem iparse_any : Calls Tryz.prog 71 #[.string ⟨s.toArray⟩, .int .i64 64] w fun x w' => FinP x ∧ Below w.heap.size w w' := by
  have hA := parsePrefix_any hM s hs
  go_enter Tryz.func71, Tryz.ntmps71
  go_wp2_with fail
  refine hA.mono ?_
  rintro e w' ⟨⟨f, n, e', hfl, rfl, he⟩, hb⟩
  cases hn : (n != (s.length : Int)) with
  | true =>
    go_wp2_with fail
    go_ret2
    exact ⟨⟨0, _, by decide, rfl, .inr (.inr rfl)⟩, hb⟩
  | false =>
    go_wp2_with fail
    go_ret2
    exact ⟨⟨f, e', hfl, rfl, he⟩, hb⟩
set_option maxRecDepth 100000 in
set_option maxHeartbeats 800000 in
theorem parseFloat_any : Calls Tryz.prog 44 #[.string ⟨s.toArray⟩, .int .i64 64] w fun x w' => FinS x ∧ Below w.heap.size w w' := by
  have hA := iparse_any hM s hs
  have hE := fun w' (hb : Below w.heap.size w w') => hM.errs.below hb
  have hsz : (ByteArray.mk s.toArray).size ≤ 281474976710656 := by simp [ByteArray.size]; omega
  go_enter Tryz.func44, Tryz.ntmps44
  go_wp2_with fail
  refine hA.mono ?_
  rintro e w1 ⟨⟨f, e', hfl, rfl, he⟩, hb⟩
  obtain ⟨⟨ev, v1, v2⟩, ew, v3, v4⟩ := hE w1 hb
  unfold errI at he
  rcases he with rfl | rfl | rfl
  · go_wp2_with fail
    go_ret2
    exact ⟨⟨f, _, hfl, rfl, .inl rfl⟩, hb⟩
  · go_wp2_with fail
    refine (Tryz.strconv_toError_range _ _ _ _ ew _ hsz v3 v4).mono ?_
    rintro e w2 ⟨N, rfl, -, -, hb2⟩
    go_wp2_with fail
    go_ret2
    exact ⟨⟨f, _, hfl, rfl, .inr ⟨_, _, rfl⟩⟩, hb.trans (hb2.mono hb.size)⟩
  · go_wp2_with fail
    refine (Tryz.strconv_toError_syntax _ _ _ _ ev _ hsz v1 v2).mono ?_
    rintro e w2 ⟨N, rfl, -, -, hb2⟩
    go_wp2_with fail
    go_ret2
    exact ⟨⟨f, _, hfl, rfl, .inr ⟨_, _, rfl⟩⟩, hb.trans (hb2.mono hb.size)⟩

/-- What Parse answers of whatever text: the float whose text it is, or ErrForm. -/
def FinR (s : List UInt8) (x : Ending) : Prop := x = .returned (.tuple #[.int .i64 0, .int .i64 4]) ∨ ∃ c : Nat, canonW c = c ∧ c < 18446744073709551616 ∧ TextOf c s ∧ s.length ≤ 24 ∧ x = .returned (.tuple #[.int .i64 (canonI c), .int .i64 0])
set_option maxRecDepth 100000 in
set_option maxHeartbeats 800000 in
theorem parse_any : Calls Tryz.prog 36 #[.string ⟨s.toArray⟩] w fun x w' => FinR s x ∧ Below w.heap.size w w' := by
  by_cases h24 : 24 < s.length
  · have hl' : decide ((24 : Int) < (s.length : Int)) = true := by simp; omega
    go_enter Tryz.func36, Tryz.ntmps36
    go_wp2_with fail
    go_ret2
    exact ⟨.inl rfl, Below.refl _ _⟩
  have hl' : decide ((24 : Int) < (s.length : Int)) = false := by simp; omega
  have hA := parseFloat_any hM s hs
  go_enter Tryz.func36, Tryz.ntmps36
  go_wp2_with fail
  refine hA.mono ?_
  rintro e w1 ⟨⟨f, e', hfl, rfl, he⟩, b1⟩
  rcases he with rfl | ⟨te, pe, rfl⟩
  · go_wp2_with fail
    refine (canon_any _ _).mono ?_
    rintro e w' ⟨rfl, hw'⟩
    obtain rfl : w1 = w' := hw'
    go_wp2_with fail
    have hM1 := hM.below b1
    refine (text_any (canonI f) w1 hM1.pow hM1.tab).mono ?_
    rintro e w2 ⟨t', rfl, ht', b2⟩
    have b3 : Below w.heap.size w w2 := b1.trans (b2.mono b1.size)
    have hk : canonI (wordOf (canonI f)) = canonI f := by
      unfold canonI
      rw [show wordOf (IntKind.i64.wrap ((canonW f : Nat) : Int)) = canonW f from wordOf_canonI hfl, canonW_idem]
    by_cases hts : t' = s
    · subst hts
      have hq : (t' == t') = true := by simp
      have hq2 : (t' != t') = false := by simp
      go_wp2_with fail
      go_ret2
      refine ⟨.inr ⟨canonW (wordOf (canonI f)), canonW_idem _, canonW_lt (wordOf_lt _), ht', by omega, ?_⟩, b3⟩
      have hc : canonI (canonW (wordOf (canonI f))) = canonI f := (canonI_canonW _).trans hk
      rw [hc]
      rfl
    · have hq : (t' == s) = false := by simpa using hts
      have hq2 : (t' != s) = true := by simpa using hts
      go_wp2_with fail
      go_ret2
      exact ⟨.inl rfl, b3⟩
  · go_wp2_with fail
    go_ret2
    exact ⟨.inl rfl, b1⟩
end
end Go.Proofs.YtkaeaiagmihmgaaGreatDoor
