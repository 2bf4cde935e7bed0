/- The walk of the reference's Read (layer 3). -/
import Derived.Test.YtnlfemfkjjjdhaaGreatDoorRowD
namespace Go.Proofs.YtnlfemfkjjjdhaaGreatDoor
open Go.RowKit

theorem own_keep {w w' : World} {base : Nat} {e : TypeId} {size n m : Nat} {v : Value} {xs : List Value} (h : w.ownsRow base e size v n xs) (hb : w.grownBy w' (some m)) (hm : m < base) : w'.ownsRow base e size v n xs := by
  refine ⟨h.1, ?_⟩
  rcases h.2 with hn | ⟨g, cap, cur, rfl, hb2, hgg, rest⟩
  · exact .inl hn
  · exact .inr ⟨g, cap, cur, rfl, hb2, (hb.block g (Array.getElem?_eq_some_iff.1 hgg).1 (fun e => by injection e; omega)).trans hgg, rest⟩
theorem vals_of_own {w : World} {base n : Nat} {v : Value} {vs : List Vl} (h : w.ownsRow base 23 3 v n (cellsV vs)) (hn : vs.length = n) : ∃ A cap, v = .slice A n cap ∧ Vals w A n vs := by
  rcases h.2 with ⟨rfl, rfl⟩ | ⟨g, cap, cur, rfl, _, hg, _, _, _, htk⟩
  · exact ⟨none, 0, rfl, hn, fun h => absurd h (by omega)⟩
  · exact ⟨_, cap, rfl, vals_of_at hg htk hn⟩
theorem info_val : (Tryz.prog.info? 23).map (fun i => (i.zero, i.size, i.bytes)) = some (some (.agg #[.int .i64 0, .int .i64 0, .string ⟨#[]⟩]), 3, 32) := by kernel_rfl
theorem rfM_le {l : List UInt8} {p : Nat} (bad : Bool) (hp : p ≤ l.length) : (rfM l p bad).1 ≤ 6 ∧ (rfM l p bad).2.1 ≤ l.length := by
  unfold rfM
  split
  · exact ⟨by simp, hp⟩
  · split
    · rename_i u k hg
      have := grp_le hg
      rw [List.length_drop] at this
      split
      · exact ⟨by simp, by show p + k ≤ l.length; omega⟩
      · exact ⟨by show (unzig u).toNat ≤ 6; omega, by show p + k ≤ l.length; omega⟩
    · exact ⟨by simp, hp⟩
theorem takesR_le {l : List UInt8} : ∀ (n p : Nat) (bad : Bool), p ≤ l.length → (takesR l n p bad).2.1 ≤ l.length
  | 0, _, _, hp => hp
  | n + 1, p, bad, hp => takeR_le _ (takesR_le n p bad hp)

set_option maxRecDepth 100000 in
set_option maxHeartbeats 1600000 in
theorem rread_any (s : List UInt8) (hs : s.length ≤ 1000000) (w : World) :
    Calls Tryz.prog 18 #[.string ⟨s.toArray⟩] w fun e w' => Below w.heap.size w w' ∧
      ((∃ vs A cap, readR s = some vs ∧ e = .returned (.tuple #[.slice A vs.length cap, .bool true]) ∧ Vals w' A vs.length vs) ∨ (readR s = none ∧ e = .returned (.tuple #[.slice none 0 0, .bool false]))) := by
  have HP : Hid (readR s = if (takesR s (rfM s 0 false).1 (rfM s 0 false).2.1 (rfM s 0 false).2.2).2.2 = true ∨ (takesR s (rfM s 0 false).1 (rfM s 0 false).2.1 (rfM s 0 false).2.2).2.1 ≠ s.length then none else some (takesR s (rfM s 0 false).1 (rfM s 0 false).2.1 (rfM s 0 false).2.2).1) := rfl
  obtain ⟨hn6, hpp⟩ := rfM_le (l := s) (p := 0) false (by omega)
  obtain ⟨i0, hi0, hz0, hz1, hz2⟩ := info_parts info_val
  have h0 : Rf (w.alloc (.cells #[.string ⟨s.toArray⟩, .int .i64 0, .bool false] 51)) w.heap.size s 0 false := At.fresh _ _ _
  have b0 := below_box w (.cells #[.string ⟨s.toArray⟩, .int .i64 0, .bool false] 51)
  go_enter Tryz.func18, Tryz.ntmps18
  go_wp2_with fail
  refine (fM_any w.heap.size s 0 false _ h0 hs (by omega)).mono ?_
  rintro e w2 ⟨rfl, h2, r2⟩
  have b2 : Below w.heap.size w w2 := b0.grown r2 b0.size (fun k h => by injection h; omega)
  generalize rfM s 0 false = a at *
  obtain ⟨n, p, bad⟩ := a
  simp only at hn6 hpp h2 HP ⊢
  clear h0 b0 r2
  go_wp2_with fail
  go_loopw [6, 7] (fun tx i wr => ∃ k : Nat, k ≤ n ∧ i = .int .i64 k ∧ Rf wr w.heap.size s (takesR s k p bad).2.1 (takesR s k p bad).2.2 ∧ wr.ownsRow (w.heap.size + 1) 23 3 tx k (cellsV (takesR s k p bad).1) ∧ Below w.heap.size w wr) (fun _ i _ => n - (intOf i).toNat)
  case atStart => exact ⟨0, by omega, rfl, h2, World.ownsRow_nil _ _ _ _, b2⟩
  case round =>
    obtain ⟨k, hk, rfl, hr, hown, hb⟩ := hrel
    have hlen := takesR_len s k p bad
    have hle := takesR_le (l := s) k p bad hpp
    by_cases hlt : k < n
    · have htn : takesR s (k + 1) p bad = ((takesR s k p bad).1 ++ [(takeR s (takesR s k p bad).2.1 (takesR s k p bad).2.2).1], (takeR s (takesR s k p bad).2.1 (takesR s k p bad).2.2).2) := rfl
      have HTN := Lib.hid htn
      clear htn
      generalize takesR s k p bad = a at *
      obtain ⟨xs, p', bad'⟩ := a
      simp only at hr hown hlen hle HTN
      go_wp2_with fail
      refine (rtake_any w.heap.size s p' bad' wr hr hs hle).mono ?_
      rintro e w4 ⟨rfl, h4, r4⟩
      have hown4 := own_keep hown r4 (by omega)
      have b4 : Below w.heap.size w w4 := hb.grown r4 hb.size (fun k h => by injection h; omega)
      generalize takeR s p' bad' = a at *
      obtain ⟨⟨kk, nn, tt⟩, p'', bad''⟩ := a
      simp only at h4 HTN ⊢
      unfold Vl.val
      simp only
      have hl4 := At.lt h4
      clear hown hr r4
      go_wp2_with (at_builtin; refine wpList_append_lies _ rfl (.tmp 18) (.tmp 21) 34 rfl (w.heap.size + 1) 23 i0 (.agg #[.int .i64 0, .int .i64 0, .string ⟨#[]⟩]) 3 32 Tryz.underlying34 hi0 hz0 hz1 hz2 rfl (by omega) _ k (cellsV xs) rfl (hown4.alloc _) ⟨w4.heap.size, 0, none⟩ 1 1 [.int .i64 kk, .int .i64 nn, .string ⟨tt.toArray⟩] rfl rfl ?c1 ?c2 ?c3 ?c4 ?c5 ?c6 _ rfl ?_)
      case c1 =>
        intro j x hj
        match j, hj with
        | 0, hj => simp at hj; subst hj; simp [Addr.add]
        | 1, hj => simp at hj; subst hj; simp [Addr.add]
        | 2, hj => simp at hj; subst hj; simp [Addr.add]
      case c2 => intro x hx; simp at hx; rcases hx with rfl | rfl | rfl <;> rfl
      case c3 => omega
      case c4 => unfold maxLen; omega
      case c5 => omega
      case c6 => simp; omega
      intro g cap w5 ho5 hg5 hat hlt5
      have hlo := World.ownsRow.lt hown4
      have h5 : Rf w5 w.heap.size s p'' bad'' := At.grown (At.alloc h4 _) hg5 (fun e => by have := (hlo _ e.symm).1; omega)
      have b5 : Below w.heap.size w w5 := (b4.alloc b4.size _).grown hg5 (by simp; omega) (fun k h => by have := (hlo k h).1; omega)
      go_wp2_with fail
      refine ⟨⟨k + 1, by omega, by go_num, ?_, ?_, b5⟩, by simp [intOf]; omega⟩
      · rw [HTN.out]; exact h5
      · rw [HTN.out]
        simp only
        rw [cellsV_snoc]
        exact ho5
    · obtain rfl : n = k := by omega
      generalize takesR s n p bad = a at *
      obtain ⟨xs, p', bad'⟩ := a
      simp only at hr hown hlen hle HP
      obtain ⟨A, cap, rfl, hvals⟩ := vals_of_own hown hlen
      subst hlen
      have c0 : wr.cell? ⟨w.heap.size, 0, none⟩ = some (.string ⟨s.toArray⟩) := At.cell hr 0
      have c1 : wr.cell? ⟨w.heap.size, 1, none⟩ = some (.int .i64 p') := At.cell hr 1
      have c2 : wr.cell? ⟨w.heap.size, 2, none⟩ = some (.bool bad') := At.cell hr 2
      cases bad' with
      | true =>
        have HP2 := Lib.hid (HP.out.trans (if_pos (.inl rfl)))
        go_wp2_with fail
        go_ret2
        exact ⟨hb, .inr ⟨HP2.out, rfl⟩⟩
      | false =>
        by_cases hq : p' = s.length
        · have HP2 := Lib.hid (HP.out.trans (if_neg (by rintro (h | h); cases h; exact h hq)))
          have ht : ((p' : Int) != (s.length : Int)) = false := by simp; omega
          go_wp2_with fail
          go_ret2
          exact ⟨hb, .inl ⟨xs, A, cap, HP2.out, rfl, hvals⟩⟩
        · have HP2 := Lib.hid (HP.out.trans (if_pos (.inr hq)))
          have ht : ((p' : Int) != (s.length : Int)) = true := by simp; omega
          go_wp2_with fail
          go_ret2
          exact ⟨hb, .inr ⟨HP2.out, rfl⟩⟩
end Go.Proofs.YtnlfemfkjjjdhaaGreatDoor
