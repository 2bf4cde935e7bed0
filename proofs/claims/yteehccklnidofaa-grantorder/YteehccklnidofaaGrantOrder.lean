/- The walk of the law GrantOrder. -/
import Derived.Test.YteehccklnidofaaGrS
import Derived.Test.YteehccklnidofaaGrO
namespace Go.Proofs.Yteehccklnidofaa
open Go.RowKit

set_option maxRecDepth 100000 in
set_option maxHeartbeats 3200000 in
theorem grantOrder_main (A : Option Addr) (n cap : Nat) (gs : List Gr) (a b : Gr) (w : World) (hr : RowG w A n gs) (hn : n ≤ maxLen) (hcap : n ≤ cap) (ha : a.Ok) (hb : b.Ok) :
    Calls Try.prog 7 #[.slice A n cap, a.val, b.val] w fun e w' => e = .returned (.bool true) ∧ Below w.heap.size w w' := by
  obtain ⟨W, hW⟩ : ∃ W, (w.alloc (.cells #[.int .i64 a.role, .string ⟨a.table.toArray⟩, .int .i64 a.bits] 24)).alloc (.cells #[.int .i64 b.role, .string ⟨b.table.toArray⟩, .int .i64 b.bits] 24) = W := ⟨_, rfl⟩
  have b3 : Below w.heap.size w W := by
    rw [← hW]
    have b0 := below_box w (.cells #[.int .i64 a.role, .string ⟨a.table.toArray⟩, .int .i64 a.bits] 24)
    exact b0.alloc b0.size _
  have aA : At W w.heap.size 24 #[.int .i64 a.role, .string ⟨a.table.toArray⟩, .int .i64 a.bits] := by
    rw [← hW]; exact (At.fresh _ _ _).alloc _
  have aB : At W (w.heap.size + 1) 24 #[.int .i64 b.role, .string ⟨b.table.toArray⟩, .int .i64 b.bits] := by
    rw [← hW]
    have := At.fresh (w.alloc (.cells #[.int .i64 a.role, .string ⟨a.table.toArray⟩, .int .i64 a.bits] 24)) 24 #[.int .i64 b.role, .string ⟨b.table.toArray⟩, .int .i64 b.bits]
    simp only [World.size_alloc] at this
    exact this
  have hWc := Lib.hid hW
  clear hW
  have hgl := hr.1
  have hin := fun w' (k : Below W.heap.size W w') => hr.below (below_in b3 k)
  have hGr := fun w' (k : Below W.heap.size W w') => ggreat_any A n cap gs w' (hin w' k) hn
  obtain ⟨z, hz⟩ : ∃ z, IntKind.i64.wrap ((a.table.length : Int) + (b.table.length : Int)) = z := ⟨_, rfl⟩
  have hgt := ha.table
  have hgt2 := hb.table
  unfold maxLen at hgt hgt2
  simp only [Gr.val]
  go_enter Try.func7, Try.ntmps7
  go_wp2_with fail
  rw [hWc.out]
  clear hWc
  refine (alive_any _).mono ?_
  rintro e w1 ⟨rfl, b1⟩
  go_wp2_with fail
  refine (hGr _ b1).mono ?_
  rintro e w2 ⟨⟨B, rfl⟩, b2⟩
  have b12 := below_in b1 b2
  have aA2 := aA.below b12 aA.lt
  have aB2 := aB.below b12 aB.lt
  obtain ⟨p0, p1, p2⟩ := aA2.tri0
  obtain ⟨q0, q1, q2⟩ := aB2.tri0
  cases B with
  | true =>
    go_wp2_with fail
    go_ret
    exact ⟨rfl, below_in b3 b12⟩
  | false =>
    by_cases h3 : 200 < z
    · have h3' : decide (200 < z) = true := decide_eq_true h3
      go_wp2_with fail
      go_ret
      exact ⟨rfl, below_in b3 b12⟩
    · have h3' : decide (200 < z) = false := decide_eq_false h3
      have hS1 := fun w' (k : Below W.heap.size W w') => rsorted_any A n cap gs w' (hin w' k) hn hcap
      obtain ⟨D, hD⟩ : ∃ D, decide (SortedG gs) = D := ⟨_, rfl⟩
      rw [hD] at hS1
      have HD := Lib.hid hD
      have hg1 := fun w' => rgoodG_any a w' ha.table
      have hg2 := fun w' => rgoodG_any b w' hb.table
      clear hD hGr h3
      go_wp2_with fail
      refine (hS1 _ b12).mono ?_
      rintro e w3 ⟨rfl, b3'⟩
      have b13 := below_in b12 b3'
      clear hS1 p0 p1 p2 q0 q1 q2
      cases D with
      | false =>
        go_wp2_with fail
        go_ret
        exact ⟨rfl, below_in b3 b13⟩
      | true =>
        have hsrt := of_decide_eq_true HD.out
        by_cases h60 : 60 < n
        · have h60' : decide ((60 : Int) < (n : Int)) = true := by simp; omega
          go_wp2_with fail
          go_ret
          exact ⟨rfl, below_in b3 b13⟩
        · have h60' : decide ((60 : Int) < (n : Int)) = false := by simp; omega
          have h60n : ¬ ((60 : Int) < (n : Int)) := by omega
          obtain ⟨p0, p1, p2⟩ := (aA.below b13 aA.lt).tri0
          cases hga : goodG a with
          | false =>
            rw [hga] at hg1
            unfold Gr.val at hg1
            clear hsrt
            go_wp2_with fail
            refine (hg1 _).mono ?_
            rintro e w4 ⟨rfl, b4⟩
            have b14 := below_in b13 b4
            go_wp2_with fail
            go_ret
            exact ⟨rfl, below_in b3 b14⟩
          | true =>
            rw [hga] at hg1
            unfold Gr.val at hg1
            have HGA := Lib.hid hga
            have HS := Lib.hid hsrt
            clear hga hsrt
            go_wp2_with fail
            refine (hg1 _).mono ?_
            rintro e w4 ⟨rfl, b4⟩
            have b14 := below_in b13 b4
            clear p0 p1 p2 hg1
            obtain ⟨q0, q1, q2⟩ := (aB.below b14 aB.lt).tri0
            cases hgb : goodG b with
            | false =>
              rw [hgb] at hg2
              unfold Gr.val at hg2
              go_wp2_with fail
              refine (hg2 _).mono ?_
              rintro e w5 ⟨rfl, b5⟩
              have b15 := below_in b14 b5
              go_wp2_with fail
              go_ret
              exact ⟨rfl, below_in b3 b15⟩
            | true =>
              rw [hgb] at hg2
              unfold Gr.val at hg2
              have HGB := Lib.hid hgb
              clear hgb
              go_wp2_with fail
              refine (hg2 _).mono ?_
              rintro e w5 ⟨rfl, b5⟩
              have b15 := below_in b14 b5
              clear q0 q1 q2 hg2
              obtain ⟨p0, p1, p2⟩ := (aA.below b15 aA.lt).tri0
              have hP1 := putOk_any A n cap gs a w5 (hin _ b15) HS.out HGA.out (by omega)
              unfold Gr.val at hP1
              go_wp2_with fail
              refine hP1.mono ?_
              rintro e w6 ⟨⟨A1, c1, x1, rfl, r1, -, s1, l1, m1, -⟩, b6⟩
              have b16 := below_in b15 b6
              clear p0 p1 p2 hP1
              obtain ⟨q0, q1, q2⟩ := (aB.below b16 aB.lt).tri0
              have hP2 := putOk_any A1 x1.length c1 x1 b w6 r1 s1 HGB.out (by omega)
              unfold Gr.val at hP2
              go_wp2_with fail
              refine hP2.mono ?_
              rintro e w7 ⟨⟨A2, c2, x2, rfl, r2, -, s2, l2, m2, -⟩, b7⟩
              have b17 := below_in b16 b7
              clear q0 q1 q2 hP2
              obtain ⟨q0, q1, q2⟩ := (aB.below b17 aB.lt).tri0
              have hP3 := putOk_any A n cap gs b w7 (hin _ b17) HS.out HGB.out (by omega)
              unfold Gr.val at hP3
              go_wp2_with fail
              refine hP3.mono ?_
              rintro e w8 ⟨⟨A3, c3, y1, rfl, r3, -, s3, l3, m3, -⟩, b8⟩
              have b18 := below_in b17 b8
              have r28 := r2.below b8
              clear q0 q1 q2 hP3
              obtain ⟨p0, p1, p2⟩ := (aA.below b18 aA.lt).tri0
              have hP4 := putOk_any A3 y1.length c3 y1 a w8 r3 s3 HGA.out (by omega)
              unfold Gr.val at hP4
              go_wp2_with fail
              refine hP4.mono ?_
              rintro e w9 ⟨⟨A4, c4, y2, rfl, r4, -, s4, l4, m4, -⟩, b9⟩
              have b19 := below_in b18 b9
              have r29 := r28.below b9
              have E1 := Lib.hid (put_swap HS.out HGA.out HGB.out s2 s4 m1 m2 m3 m4)
              clear p0 p1 p2 hP4
              obtain ⟨p0, p1, p2⟩ := (aA.below b19 aA.lt).tri0
              have hP5 := putOk_any A2 x2.length c2 x2 a w9 r29 s2 HGA.out (by omega)
              unfold Gr.val at hP5
              go_wp2_with fail
              refine hP5.mono ?_
              rintro e wA ⟨⟨A5, c5, z5, rfl, r5, -, s5, l5, m5, -⟩, b10⟩
              have b1A := below_in b19 b10
              have e2 := put_again HS.out HGA.out HGB.out s2 s5 m1 m2 m5
              have r2A := r29.below b10
              have r4A := r4.below b10
              have e1 := E1.out
              clear E1
              subst e1 e2
              have hnx : x2.length ≤ 1000 := by omega
              clear l2 h60 h60n h60'
              clear p0 p1 p2 hP5 m1 m2 m3 m4 m5 r1 r2 r3 r4 r28 r29 s1 s3 s4 s5 l1 l3 l4 l5 hin hr HS HD HGA HGB
              go_wp2_with fail
              go_loopw [106] (fun iv wr => ∃ k : Nat, k ≤ x2.length ∧ iv = .int .i64 k ∧ Below W.heap.size W wr ∧ RowG wr A2 x2.length x2 ∧ RowG wr A4 x2.length x2 ∧ RowG wr A5 x2.length x2) (fun iv _ => x2.length - (intOf iv).toNat)
              case atStart => exact ⟨0, by omega, rfl, b1A, r2A, r4A, r5⟩
              case round =>
                obtain ⟨k, hk, rfl, bR, R2, R4, R5⟩ := hrel
                clear r2A r4A r5 b1A
                by_cases hlt : k < x2.length
                · obtain ⟨g2, o2, rfl, hl2, h2⟩ := R2.2.2 (by omega)
                  obtain ⟨g4, o4, rfl, hl4, h4⟩ := R4.2.2 (by omega)
                  obtain ⟨g5, o5, rfl, hl5, h5⟩ := R5.2.2 (by omega)
                  have HR : Hid (RowG wr.drew (some ⟨g2, o2, none⟩) x2.length x2 ∧ RowG wr.drew (some ⟨g4, o4, none⟩) x2.length x2 ∧ RowG wr.drew (some ⟨g5, o5, none⟩) x2.length x2) := ⟨R2, R4, R5⟩
                  obtain ⟨u0, u1, u2⟩ := h2 k hlt
                  obtain ⟨v0, v1, v2⟩ := h4 k hlt
                  obtain ⟨t0, t1, t2⟩ := h5 k hlt
                  generalize x2.getD k default = c at u0 u1 u2 v0 v1 v2 t0 t1 t2
                  have hki : (k : Int) < (x2.length : Int) := by omega
                  clear R2 R4 R5 h2 h4 h5
                  go_wp2_with fail
                  go_quiet (fail)
                  go_wp2_with fail
                  exact ⟨⟨k + 1, by omega, by go_num, below_nq bR _, HR.out.1, HR.out.2.1, HR.out.2.2⟩, by simp [intOf]; omega⟩
                · go_wp2_with fail
                  go_ret
                  exact ⟨rfl, below_in b3 bR⟩
end Go.Proofs.Yteehccklnidofaa
