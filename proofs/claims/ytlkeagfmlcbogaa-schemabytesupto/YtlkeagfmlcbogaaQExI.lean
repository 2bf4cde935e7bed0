/- The walks of nodesLeft and isLong. -/
import Derived.Test.YtlkeagfmlcbogaaQExG
namespace Go.Proofs.Ytlkeagfmlcbogaa
open Go.RowKit

set_option maxRecDepth 100000 in
set_option maxHeartbeats 1600000 in
theorem nodes_any (e : Ex) : ∀ (nodes levels : Int) (w : World), InE w e → 0 ≤ nodes → nodes ≤ 1000 → 0 ≤ levels → levels ≤ 1000 →
    Calls Try.prog 87 #[e.val, .int .i64 nodes, .int .i64 levels] w fun en w' => en = .returned (.int .i64 (leftE e nodes levels)) ∧ Below w.heap.size w w' := by
  induction e with
  | nil => intro nodes levels w h; exact h.elim
  | mk op col v B p cp arg ih =>
    intro nodes levels w hin h1 h2 h3 h4
    have H := Lib.hid (leftE_mk op col v B p cp arg nodes levels)
    rw [InE] at hin
    obtain ⟨-, -, -, hp, harg⟩ := hin
    unfold maxLen at hp
    simp only [Ex.val, Ex.op, Ex.col, Ex.v, Ex.A, Ex.n, Ex.cap]
    have hb := below_box w (.cells #[.int .i64 op, .int .i64 col, .int .i64 v.kind, .int .i64 v.num, .string ⟨v.text.toArray⟩, .slice B p cp] 45)
    by_cases hn0 : nodes = 0
    · subst hn0
      rw [if_pos (.inl rfl)] at H
      clear ih harg
      go_enter Try.func87, Try.ntmps87
      go_wp2
      go_ret
      exact ⟨by rw [H.out]; rfl, hb⟩
    have hn0' : (nodes == 0) = false := by simpa using hn0
    by_cases hl0 : levels = 0
    · subst hl0
      rw [if_pos (.inr rfl)] at H
      clear ih harg
      go_enter Try.func87, Try.ntmps87
      go_wp2
      go_ret
      exact ⟨by rw [H.out]; rfl, hb⟩
    have hl0' : (levels == 0) = false := by simpa using hl0
    rw [if_neg (by omega)] at H
    have q1 : 0 ≤ levels - 1 := by omega
    have q2 : levels - 1 ≤ 1000 := by omega
    go_enter Try.func87, Try.ntmps87
    go_wp2
    go_loopw [1, 20] (fun nd i wr => ∃ (k : Nat) (z : Int), k ≤ p ∧ i = .int .i64 k ∧ nd = .int .i64 z ∧ Hid (z = leftTo arg nodes levels k) ∧ 0 ≤ z ∧ z ≤ 1000 ∧ Below w.heap.size w wr) (fun _ i _ => p - (intOf i).toNat)
    case atStart => exact ⟨0, nodes - 1, by omega, rfl, rfl, Lib.hid rfl, by omega, by omega, hb⟩
    case round =>
      obtain ⟨k, z, hk, rfl, rfl, hz, hz0, hz1, hbr⟩ := hrel
      by_cases hlt : k < p
      · obtain ⟨b, off, rfl, hbl, hcell⟩ := harg (by omega)
        have hcl := (hcell k hlt).1.below hbr hbl
        have hik := (hcell k hlt).2.below hbr
        have HS := Lib.hid (leftTo_succ arg nodes levels k)
        rw [← hz.out, if_neg (by omega)] at HS
        have hneg := fun h => leftTo_neg arg nodes levels (k + 1) h (p - (k + 1))
        rw [show k + 1 + (p - (k + 1)) = p by omega] at hneg
        have HN := Lib.hid hneg
        have hrng := leftE_range (arg k) z (levels - 1) hz0
        obtain ⟨y, hy⟩ : ∃ y, leftE (arg k) z (levels - 1) = y := ⟨_, rfl⟩
        have iha := fun w' (b' : Below wr.heap.size wr w') => ih k z (levels - 1) w' (hik.below b') hz0 hz1 q1 q2
        rw [hy] at hrng HS iha
        clear hy hneg ih hcell hik harg
        unfold Ex.val at iha
        obtain ⟨c0, c1, c2, c3, c4, c5⟩ := hcl
        have hbx := below_box wr (.cells #[.int .i64 (arg k).op, .int .i64 (arg k).col, .int .i64 (arg k).v.kind, .int .i64 (arg k).v.num, .string ⟨(arg k).v.text.toArray⟩, .slice (arg k).A (arg k).n (arg k).cap] 45)
        go_wp2_with fail
        refine (iha _ hbx).mono ?_
        rintro e w2 ⟨rfl, b2⟩
        have hb2 := below_in hbr (below_in hbx b2)
        by_cases hy0 : y < 0
        · go_wp2_with fail
          go_ret
          refine ⟨?_, hb2⟩
          rw [H.out, HN.out (by rw [HS.out]; omega)]
          rfl
        · go_wp2_with fail
          refine ⟨⟨k + 1, y, by omega, by go_num, rfl, Lib.hid HS.out.symm, by omega, by omega, hb2⟩, by simp [intOf]; omega⟩
      · go_wp2
        go_ret
        refine ⟨?_, hbr⟩
        rw [H.out, hz.out, show k = p by omega]
        rfl

set_option maxHeartbeats 400000 in
theorem isLong_any (e : Ex) (w : World) (hin : InE w e) : Calls Try.prog 76 #[e.val] w fun en w' => en = .returned (.bool (decide (leftE e 24 8 < 0))) ∧ Below w.heap.size w w' := by
  have hb := below_box w (.cells #[.int .i64 e.op, .int .i64 e.col, .int .i64 e.v.kind, .int .i64 e.v.num, .string ⟨e.v.text.toArray⟩, .slice e.A e.n e.cap] 45)
  have iha := fun w' (b' : Below w.heap.size w w') => nodes_any e 24 8 w' (hin.below b') (by omega) (by omega) (by omega) (by omega)
  unfold Ex.val at iha ⊢
  generalize leftE e 24 8 = y at *
  go_enter Try.func76, Try.ntmps76
  go_wp2_with fail
  refine (iha _ hb).mono ?_
  rintro en w2 ⟨rfl, b2⟩
  go_wp2_with fail
  go_ret
  exact ⟨rfl, below_in hb b2⟩
end Go.Proofs.Ytlkeagfmlcbogaa
