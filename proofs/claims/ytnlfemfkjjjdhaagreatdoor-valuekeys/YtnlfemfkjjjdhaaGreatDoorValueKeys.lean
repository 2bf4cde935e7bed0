/- The walk of the law ValueKeys. -/
import Derived.Test.YtnlfemfkjjjdhaaGreatDoorValF
import Derived.Deep.RegionHeld3
namespace Go.Proofs.YtnlfemfkjjjdhaaGreatDoor
open Go.RowKit
open Go.Op (bytesLess)

/-- Two values lie in their blocks. -/
structure Pair (W : World) (A B : Nat) (a b : Vl) : Prop where
  fst : At W A 23 #[.int .i64 a.kind, .int .i64 a.num, .string ⟨a.text.toArray⟩]
  snd : At W B 23 #[.int .i64 b.kind, .int .i64 b.num, .string ⟨b.text.toArray⟩]
theorem Pair.below {W w : World} {A B : Nat} {a b : Vl} (h : Pair W A B a b) (hb : Below W.heap.size W w) : Pair w A B a b := ⟨h.fst.below hb h.fst.lt, h.snd.below hb h.snd.lt⟩
theorem Pair.cells {w : World} {A B : Nat} {k n j m : Int} {t s : List UInt8} (h : Pair w A B ⟨k, n, t⟩ ⟨j, m, s⟩) :
    w.cell? ⟨A, 0, none⟩ = some (.int .i64 k) ∧ w.cell? ⟨A, 1, none⟩ = some (.int .i64 n) ∧ w.cell? ⟨A, 2, none⟩ = some (.string ⟨t.toArray⟩) ∧
    w.cell? ⟨B, 0, none⟩ = some (.int .i64 j) ∧ w.cell? ⟨B, 1, none⟩ = some (.int .i64 m) ∧ w.cell? ⟨B, 2, none⟩ = some (.string ⟨s.toArray⟩) :=
  ⟨At.cell h.fst 0, At.cell h.fst 1, At.cell h.fst 2, At.cell h.snd 0, At.cell h.snd 1, At.cell h.snd 2⟩

set_option maxRecDepth 100000 in
set_option maxHeartbeats 3200000 in
theorem valueKeys_main (a b : Vl) (w : World) (ht : Tb w) (ha : a.Ok) (hb : b.Ok) :
    Calls Tryz.prog 3 #[a.val, b.val] w fun e w' => e = .returned (.bool true) ∧ Below w.heap.size w w' := by
  obtain ⟨k, n, t⟩ := a
  obtain ⟨j, m, s⟩ := b
  have HA := Lib.hid ha
  have HB := Lib.hid hb
  clear ha hb
  show Calls _ _ #[.agg #[.int .i64 k, .int .i64 n, .string ⟨t.toArray⟩], .agg #[.int .i64 j, .int .i64 m, .string ⟨s.toArray⟩]] w _
  have b0 := below_box2 w (.cells #[.int .i64 k, .int .i64 n, .string ⟨t.toArray⟩] 23) (.cells #[.int .i64 j, .int .i64 m, .string ⟨s.toArray⟩] 23)
  have p0 : Pair ((w.alloc (.cells #[.int .i64 k, .int .i64 n, .string ⟨t.toArray⟩] 23)).alloc (.cells #[.int .i64 j, .int .i64 m, .string ⟨s.toArray⟩] 23)) w.heap.size (w.heap.size + 1) ⟨k, n, t⟩ ⟨j, m, s⟩ :=
    ⟨(At.fresh w _ _).alloc _, by simpa using At.fresh (w.alloc (.cells #[.int .i64 k, .int .i64 n, .string ⟨t.toArray⟩] 23)) 23 #[.int .i64 j, .int .i64 m, .string ⟨s.toArray⟩]⟩
  go_enter Tryz.func3, Tryz.ntmps3
  go_wp2_with fail
  refine (alive_any _ (ht.below b0)).mono ?_
  rintro e w1 ⟨rfl, b1⟩
  have p1 := p0.below b1
  have hb1 := below_in b0 b1
  clear p0 b0 b1
  have q1 := p1.cells
  obtain ⟨a0, a1, a2, c0, c1, c2⟩ := q1
  go_wp2_with fail
  refine (great_any _ _ _ _ _ (Vals.two w1 ⟨k, n, t⟩ ⟨j, m, s⟩) (by intro v hv; simp at hv; rcases hv with rfl | rfl; exact HA.out; exact HB.out) (by unfold maxLen; omega)).mono ?_
  rintro e w2 ⟨rfl, b2⟩
  have b2' := below_in (below_box w1 _) b2
  have p2 := p1.below b2'
  have hb2 := below_in hb1 b2'
  clear p1 a0 a1 a2 c0 c1 c2 b2 b2' hb1
  cases hgr : greatB [⟨k, n, t⟩, ⟨j, m, s⟩] with
  | true =>
    go_wp2_with fail
    go_ret
    exact ⟨rfl, hb2⟩
  | false =>
    clear hgr
    go_wp2_with fail
    have d2 : Below w2.heap.size w2 w2.drew := (Below.refl _ _).drew
    have p2' := p2.below d2
    have hb2' := below_in hb2 d2
    have S0 := p2'.cells
    go_region_held3 (fun w' => w'.cell? ⟨w.heap.size, 0, none⟩ = some (.int .i64 k) ∧ w'.cell? ⟨w.heap.size, 1, none⟩ = some (.int .i64 n) ∧ w'.cell? ⟨w.heap.size, 2, none⟩ = some (.string ⟨t.toArray⟩) ∧
        w'.cell? ⟨w.heap.size + 1, 0, none⟩ = some (.int .i64 j) ∧ w'.cell? ⟨w.heap.size + 1, 1, none⟩ = some (.int .i64 m) ∧ w'.cell? ⟨w.heap.size + 1, 2, none⟩ = some (.string ⟨s.toArray⟩))
      (first | exact S0 | exact S1 | exact S2)
      (first
        | (go_at_call_of 10 t; refine (vkey_any ⟨k, n, t⟩ HA.out w2.drew (ht.below hb2').lens).mono ?_; rintro e w3 ⟨rfl, b3⟩; have p3 := p2'.below b3; have hb3 := below_in hb2' b3; have S1 := p3.cells)
        | (go_at_call_of 10 s; refine (vkey_any ⟨j, m, s⟩ HB.out w3 (ht.below hb3).lens).mono ?_; rintro e w4 ⟨rfl, b4⟩; have p4 := p3.below b4; have hb4 := below_in hb3 b4; have S2 := p4.cells))
    clear S0 S1 S2 p2 p2' p3 d2 b3 b4 hb2 hb2' hb3
    obtain ⟨a0, a1, a2, c0, c1, c2⟩ := p4.cells
    go_wp2_with fail
    refine (rkey_any ⟨k, n, t⟩ HA.out _).mono ?_
    rintro e w5 ⟨rfl, b5⟩
    have p5 := p4.below b5
    have hb5 := below_in hb4 b5
    clear p4 hb4 b5 a0 a1 a2 c0 c1 c2
    obtain ⟨a0, a1, a2, c0, c1, c2⟩ := p5.cells
    go_wp2_with fail
    refine (rkey_any ⟨j, m, s⟩ HB.out _).mono ?_
    rintro e w6 ⟨rfl, b6⟩
    have p6 := p5.below b6
    have hb6 := below_in hb5 b6
    clear p5 hb5 b6 a0 a1 a2 c0 c1 c2
    obtain ⟨a0, a1, a2, c0, c1, c2⟩ := p6.cells
    go_wp2_with fail
    refine (rgood_any ⟨k, n, t⟩ HA.out _).mono ?_
    rintro e w7 ⟨rfl, b7⟩
    have p7 := p6.below b7
    have hb7 := below_in hb6 b7
    clear p6 hb6 b7 a0 a1 a2 c0 c1 c2
    cases hga : goodV ⟨k, n, t⟩ with
    | false =>
      go_wp2_with fail
      go_ret
      exact ⟨rfl, hb7⟩
    | true =>
    obtain ⟨a0, a1, a2, c0, c1, c2⟩ := p7.cells
    go_wp2_with fail
    refine (rgood_any ⟨j, m, s⟩ HB.out _).mono ?_
    rintro e w8 ⟨rfl, b8⟩
    have p8 := p7.below b8
    have hb8 := below_in hb7 b8
    clear p7 hb7 b8 a0 a1 a2 c0 c1 c2
    cases hgb : goodV ⟨j, m, s⟩ with
    | false =>
      go_wp2_with fail
      go_ret
      exact ⟨rfl, hb8⟩
    | true =>
    by_cases hab : Vl.mk k n t = ⟨j, m, s⟩
    · obtain ⟨rfl, rfl, rfl⟩ : k = j ∧ n = m ∧ t = s := by simpa using hab
      obtain ⟨a0, a1, a2, c0, c1, c2⟩ := p8.cells
      go_wp2_with fail
      go_ret
      exact ⟨rfl, hb8⟩
    have hlt := key_less hga hgb HA.out.num HB.out.num hab
    have hap := fun x => key_apart hga hgb HA.out.num HB.out.num (t := x)
    have hcm := cmpV_neg ⟨k, n, t⟩ ⟨j, m, s⟩
    have hlx := esc_len2 ⟨k, n, t⟩
    have hly := esc_len2 ⟨j, m, s⟩
    rw [← hlt] at hcm
    obtain ⟨x, hx⟩ : ∃ x, keyV ⟨k, n, t⟩ = x := ⟨_, rfl⟩
    obtain ⟨y, hy⟩ : ∃ y, keyV ⟨j, m, s⟩ = y := ⟨_, rfl⟩
    rw [hx] at hap hcm hlx
    rw [hy] at hap hcm hly
    rw [hx, hy]
    have hbeg : x.length ≤ y.length → (((ByteArray.mk y.toArray).extract 0 x.length).toList == x) = false := fun hl => by
      rw [extract_take]
      refine beq_eq_false_iff_ne.2 fun e => hab (hap (y.drop x.length) ?_)
      have e2 : y.take x.length = x := by simpa using e
      exact (List.take_append_drop x.length y).symm.trans (by rw [e2])
    have HC := Lib.hid hcm
    clear hx hy hap hlt hga hgb hcm
    have hcases : (k == j) = false ∨ (k = j ∧ (n == m) = false) ∨ (k = j ∧ n = m ∧ ¬ t = s) := by
      by_cases h1 : k = j
      · by_cases h2 : n = m
        · exact .inr (.inr ⟨h1, h2, fun h3 => hab (by rw [h1, h2, h3])⟩)
        · exact .inr (.inl ⟨h1, by simpa using h2⟩)
      · exact .inl (by simpa using h1)
    clear hab
    by_cases hl : x.length ≤ y.length
    all_goals
      have hl' : decide ((x.length : Int) ≤ (y.length : Int)) = decide (x.length ≤ y.length) := by simp
      first | (have hbg := hbeg hl) | skip
      clear hbeg
      rcases hcases with h1 | ⟨rfl, h1⟩ | ⟨rfl, rfl, h1⟩
      all_goals
        obtain ⟨a0, a1, a2, c0, c1, c2⟩ := p8.cells
        go_wp2_with fail
        refine (rcompare_any ⟨_, _, _⟩ ⟨_, _, _⟩ _).mono ?_
        rintro e w9 ⟨rfl, b9⟩
        have hb9 := below_in hb8 b9
        go_wp2_with fail
        go_ret
        exact ⟨ret_b (by rw [HC.out]; simp), hb9⟩
end Go.Proofs.YtnlfemfkjjjdhaaGreatDoor
