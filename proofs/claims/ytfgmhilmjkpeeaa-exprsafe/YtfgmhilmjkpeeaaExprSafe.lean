/- The walk of the law ExprSafe. -/
import Derived.Test.YtfgmhilmjkpeeaaExL
namespace Go.Proofs.Ytfgmhilmjkpeeaa
open Go.RowKit

section
variable {P : Program} {ops : Array Oper} {Q : Exit → Act → World → Prop} {md : Region.Mode} {S : World → Prop}
/-- An operation that is passed over. -/
theorem skip_at {i d : Nat} {oi : Oper} {fuel : Nat} {listed : Array Bool} {ts : Array Value} {ds : List Deferred} {w : World} (hi : (ops.toList.drop i).head? = some oi) (hd : oi.dst = some d)
    (hs : Region.noSelect ops = true) (hf : Region.free md ops listed i = true) (hr : (Region.ready md ops listed).contains i = true)
    (hQ : ∀ c a w, Q (.panic c) (a.put oi.dst undef) w → Q (.panic c) a w) (hw : Region.wanted oi (yielded ops ts) = false) (hS : S w)
    (h : wpAnyH P md ops Q S fuel (listed.setIfInBounds i true) { tmps := ts.setIfInBounds d undef, defers := ds } w) : wpAnyH P md ops Q S (fuel + 1) listed { tmps := ts, defers := ds } w :=
  wpAnyH_take (op_at hi) hs hf hr hQ (.inr ⟨hw, rfl⟩) hS (by rw [hd]; exact h)
end
/-- The first k values are null or of their columns' kinds, and valid. -/
def FitsTo (ks : List Int) (vs : List Vl) (k : Nat) : Prop := ∀ j, j < k → ((vs.getD j default).kind = 0 ∨ (vs.getD j default).kind = ks.getD j 0) ∧ goodV (vs.getD j default) = true

theorem safeX {ks : List Int} {vs : List Vl} (F : Fits ks vs) {e : Ex} {k : Int} (h : kindX ks e = some k) : ∃ v, valX vs e = some v ∧ Kept k v := by
  unfold kindX at h
  unfold valX
  split at h
  · cases h
  · rename_i hl
    rw [if_neg hl]
    exact safe F e k h
theorem val_ok {row : List Vl} (hr : ∀ v ∈ row, v.Ok) {w : World} : ∀ (e : Ex) (v : Vl), InE w e → valE row e = some v → v.Ok
  | .nil, _, h, _ => h.elim
  | .mk op col u A n cap arg, v, hin, h => by
    rw [InE] at hin
    obtain ⟨-, -, hu, -, harg⟩ := hin
    rw [valE] at h
    by_cases h0 : hasOps op n = false
    · rw [if_pos h0] at h; cases h
    rw [if_neg h0] at h
    by_cases h1 : op = 1
    · rw [if_pos h1] at h; cases h; exact hu
    rw [if_neg h1] at h
    by_cases h2 : op = 2
    · rw [if_pos h2] at h
      unfold rowAt at h
      split at h
      · cases h; exact ok_at hr (by omega)
      · cases h
    rw [if_neg h2] at h
    by_cases h7 : op = 7
    · rw [if_pos h7] at h
      obtain ⟨a, _, e2⟩ := Option.bind_eq_some_iff.1 h
      exact notV_ok e2
    rw [if_neg h7] at h
    by_cases h8 : op = 8
    · rw [if_pos h8] at h
      obtain ⟨a, _, e2⟩ := Option.map_eq_some_iff.1 h
      rw [← e2]
      exact okV_truth _
    rw [if_neg h8] at h
    obtain ⟨a, _, e2⟩ := Option.bind_eq_some_iff.1 h
    obtain ⟨b, _, e3⟩ := Option.bind_eq_some_iff.1 e2
    exact pairV_ok e3

set_option maxRecDepth 100000 in
set_option maxHeartbeats 6400000 in
theorem exprSafe_main (e : Ex) (A : Option Addr) (n cap : Nat) (ks : List Int) (B : Option Addr) (m cp : Nat) (vs : List Vl) (w : World) (hin : InE w e) (hc : Cols w A n ks) (_hck : ∀ k ∈ ks, I64 k) (hn : n ≤ maxLen) (hv : Vals w B m vs) (hok : ∀ v ∈ vs, v.Ok) (hm : m ≤ maxLen) :
    Calls Try.prog 3 #[e.val, .slice A n cap, .slice B m cp] w fun en w' => en = .returned (.bool true) ∧ Below w.heap.size w w' := by
  have hgr := fun w1 (b1 : Below w.heap.size w w1) => great_any e B m cp vs w1 (hin.below b1) (hv.below b1) hok hm
  have hK := fun w1 (b1 : Below w.heap.size w w1) => Kind_any e A n cap ks w1 (hin.below b1) (hc.below b1) hn
  have hE := fun w1 (b1 : Below w.heap.size w w1) => Eval_any e B m cp vs w1 (hin.below b1) (hv.below b1) hm
  unfold Ex.val at *
  unfold maxLen at hn hm
  go_enter Try.func3, Try.ntmps3
  go_wp2_with fail
  refine (alive_any _).mono ?_
  intro en w1 he
  obtain ⟨rfl, b1⟩ := he
  have hb0 := below_box w (.cells #[.int .i64 e.op, .int .i64 e.col, .int .i64 e.v.kind, .int .i64 e.v.num, .string ⟨e.v.text.toArray⟩, .slice e.A e.n e.cap] 26)
  have hA0 := At.fresh w 26 #[.int .i64 e.op, .int .i64 e.col, .int .i64 e.v.kind, .int .i64 e.v.num, .string ⟨e.v.text.toArray⟩, .slice e.A e.n e.cap]
  have hb1 := below_in hb0 b1
  have hA1 := hA0.below b1 hA0.lt
  clear hA0 hb0 b1
  obtain ⟨c0, c1, c2, c3, c4, c5⟩ := hA1.six
  go_wp2_with fail
  refine (hgr _ hb1).mono ?_
  rintro en w2 ⟨⟨x, rfl⟩, b2⟩
  clear c0 c1 c2 c3 c4 c5
  have hb2 := below_in hb1 b2
  have hA2 := hA1.below b2 hA1.lt
  clear hgr hA1 hb1 b2
  cases x with
  | true =>
    go_wp2_with fail
    go_ret
    exact ⟨rfl, hb2⟩
  | false =>
  by_cases h30 : 30 < n
  · go_wp2_with fail
    go_ret
    exact ⟨rfl, hb2⟩
  have h30' : decide ((30 : Int) < (n : Int)) = false := by simp; omega
  by_cases hnm : n = m
  case neg =>
    have hnm' : ((n : Int) != (m : Int)) = true := by simp; omega
    go_wp2_with fail
    go_ret
    exact ⟨rfl, hb2⟩
  subst hnm
  have hnm' : ((n : Int) != (n : Int)) = false := by simp
  obtain ⟨c0, c1, c2, c3, c4, c5⟩ := hA2.six
  go_wp2_with fail
  go_loopw [32] (fun i wr => ∃ k : Nat, k ≤ n ∧ i = .int .i64 k ∧ Hid (FitsTo ks vs k) ∧ Below w.heap.size w wr ∧ At wr w.heap.size 26 #[.int .i64 e.op, .int .i64 e.col, .int .i64 e.v.kind, .int .i64 e.v.num, .string ⟨e.v.text.toArray⟩, .slice e.A e.n e.cap]) (fun i _ => n - (intOf i).toNat)
  case atStart => exact ⟨0, by omega, rfl, Lib.hid (fun j hj => absurd hj (by omega)), hb2, hA2⟩
  case round =>
    obtain ⟨k, hk, rfl, hfit, hbr, hAr⟩ := hrel
    clear hA2 hb2 c0 c1 c2 c3 c4 c5
    by_cases hlt : k < n
    · obtain ⟨b, off, rfl, hbl, hcell⟩ := (hv.below hbr).2 (by omega)
      obtain ⟨cb, coff, rfl, hcl, hccell⟩ := (hc.below hbr).2 (by omega)
      obtain ⟨c0, c1, c2⟩ := hcell k hlt
      have d1 := hccell k hlt
      have hok1 := ok_at hok (k := k) (by rw [hv.1]; exact hlt)
      have HS : Hid (goodV (vs.getD k default) = true → ((vs.getD k default).kind = 0 ∨ (vs.getD k default).kind = ks.getD k 0) → FitsTo ks vs (k + 1)) := Lib.hid (fun h1 h2 j hj => by
        by_cases hjk : j = k
        · subst hjk; exact ⟨h2, h1⟩
        · exact hfit.out j (by omega))
      clear hcell hccell hK hE hin hv hc hok hfit
      generalize vs.getD k default = x at *
      generalize ks.getD k 0 = kc at *
      obtain ⟨kk, nn, tt⟩ := x
      have hgood := rgood_any ⟨kk, nn, tt⟩ hok1
      simp only [Vl.val] at hgood
      simp only at c0 c1 c2 HS
      have hbx0 := below_box wr (.cells (cs3 kk nn tt) 23)
      have hVx := At.fresh wr 23 (cs3 kk nn tt)
      unfold cs3 at hbx0 hVx
      have hbx := below_in hbr hbx0
      have hAx := hAr.below hbx0 hAr.lt
      have hcl' : cb < (wr.alloc (.cells #[.int .i64 kk, .int .i64 nn, .string ⟨tt.toArray⟩] 23)).heap.size := Nat.lt_of_lt_of_le hcl hbx0.size
      have hd1 : (wr.alloc (.cells #[.int .i64 kk, .int .i64 nn, .string ⟨tt.toArray⟩] 23)).cell? ⟨cb, coff + k * 6 + 1, none⟩ = some (.int .i64 kc) := (hbx0.cell (p := ⟨cb, coff + k * 6 + 1, none⟩) hcl).trans d1
      have hkeep : ∀ w', Below (wr.alloc (.cells #[.int .i64 kk, .int .i64 nn, .string ⟨tt.toArray⟩] 23)).heap.size (wr.alloc (.cells #[.int .i64 kk, .int .i64 nn, .string ⟨tt.toArray⟩] 23)) w' →
          w'.cell? ⟨wr.heap.size, 0, none⟩ = some (.int .i64 kk) ∧ w'.cell? ⟨wr.heap.size, 1, none⟩ = some (.int .i64 nn) ∧ w'.cell? ⟨wr.heap.size, 2, none⟩ = some (.string ⟨tt.toArray⟩) ∧ w'.cell? ⟨cb, coff + k * 6 + 1, none⟩ = some (.int .i64 kc) := fun w' hb' =>
        ⟨(hVx.below hb' hVx.lt).cell 0, (hVx.below hb' hVx.lt).cell 1, (hVx.below hb' hVx.lt).cell 2, (hb'.cell (p := ⟨cb, coff + k * 6 + 1, none⟩) hcl').trans hd1⟩
      have q1 : (0 : Int) ≤ (k : Int) := by omega
      have q2 : (k : Int) < (n : Int) := by omega
      clear d1 hd1 hcl' hVx hbx0 hok1 hcl hbl
      by_cases hk0 : kk = 0
      · subst hk0
        have hd : ((0 : Int) != 0) = false := rfl
        cases hgd : goodV ⟨0, nn, tt⟩ with
        | false =>
          rw [hgd] at hgood
          clear hgd HS
          go_wp2_with fail
          refine wp_region_held_drew (S := fun w' => w'.cell? ⟨wr.heap.size, 0, none⟩ = some (.int .i64 0) ∧ w'.cell? ⟨wr.heap.size, 1, none⟩ = some (.int .i64 nn) ∧ w'.cell? ⟨wr.heap.size, 2, none⟩ = some (.string ⟨tt.toArray⟩) ∧ w'.cell? ⟨cb, coff + k * 6 + 1, none⟩ = some (.int .i64 kc)) (by kernel_rfl) (hkeep _ (Below.refl _ _).drew) (fun hS => ?_)
          refine take_at (i := 0) (v := ?_) rfl rfl (by kernel_rfl) (by kernel_rfl) (by kernel_rfl) (fun _ _ _ h => h) (by rfl) hS ?_ ?_
          rotate_left
          · intro w' hw
            obtain ⟨s0, s1, s2, s3⟩ := hw
            go_simp
            try with_reducible rfl
          try simp only [List.setIfInBounds_toArray, List.set_cons_zero, List.set_cons_succ]
          refine take_at (i := 1) (v := ?_) rfl rfl (by kernel_rfl) (by kernel_rfl) (by kernel_rfl) (fun _ _ _ h => h) (by rfl) hS ?_ ?_
          rotate_left
          · intro w' hw
            obtain ⟨s0, s1, s2, s3⟩ := hw
            go_simp
            try with_reducible rfl
          try simp only [List.setIfInBounds_toArray, List.set_cons_zero, List.set_cons_succ]
          refine take_at (i := 2) (v := ?_) rfl rfl (by kernel_rfl) (by kernel_rfl) (by kernel_rfl) (fun _ _ _ h => h) (by rfl) hS ?_ ?_
          rotate_left
          · intro w' hw
            obtain ⟨s0, s1, s2, s3⟩ := hw
            go_simp
            try with_reducible rfl
          try simp only [List.setIfInBounds_toArray, List.set_cons_zero, List.set_cons_succ]
          refine take_at (i := 3) (v := ?_) rfl rfl (by kernel_rfl) (by kernel_rfl) (by kernel_rfl) (fun _ _ _ h => h) (by rfl) hS ?_ ?_
          rotate_left
          · intro w' hw
            obtain ⟨s0, s1, s2, s3⟩ := hw
            go_simp
            try with_reducible rfl
          try simp only [List.setIfInBounds_toArray, List.set_cons_zero, List.set_cons_succ]
          refine skip_at (i := 4) rfl rfl (by kernel_rfl) (by kernel_rfl) (by kernel_rfl) (fun _ _ _ h => h) (by rfl) hS ?_
          try simp only [List.setIfInBounds_toArray, List.set_cons_zero, List.set_cons_succ]
          refine skip_at (i := 5) rfl rfl (by kernel_rfl) (by kernel_rfl) (by kernel_rfl) (fun _ _ _ h => h) (by rfl) hS ?_
          try simp only [List.setIfInBounds_toArray, List.set_cons_zero, List.set_cons_succ]
          refine skip_at (i := 6) rfl rfl (by kernel_rfl) (by kernel_rfl) (by kernel_rfl) (fun _ _ _ h => h) (by rfl) hS ?_
          try simp only [List.setIfInBounds_toArray, List.set_cons_zero, List.set_cons_succ]
          refine skip_at (i := 7) rfl rfl (by kernel_rfl) (by kernel_rfl) (by kernel_rfl) (fun _ _ _ h => h) (by rfl) hS ?_
          try simp only [List.setIfInBounds_toArray, List.set_cons_zero, List.set_cons_succ]
          refine skip_at (i := 8) rfl rfl (by kernel_rfl) (by kernel_rfl) (by kernel_rfl) (fun _ _ _ h => h) (by rfl) hS ?_
          try simp only [List.setIfInBounds_toArray, List.set_cons_zero, List.set_cons_succ]
          refine skip_at (i := 9) rfl rfl (by kernel_rfl) (by kernel_rfl) (by kernel_rfl) (fun _ _ _ h => h) (by rfl) hS ?_
          try simp only [List.setIfInBounds_toArray, List.set_cons_zero, List.set_cons_succ]
          refine skip_at (i := 10) rfl rfl (by kernel_rfl) (by kernel_rfl) (by kernel_rfl) (fun _ _ _ h => h) (by rfl) hS ?_
          try simp only [List.setIfInBounds_toArray, List.set_cons_zero, List.set_cons_succ]
          refine skip_at (i := 11) rfl rfl (by kernel_rfl) (by kernel_rfl) (by kernel_rfl) (fun _ _ _ h => h) (by rfl) hS ?_
          try simp only [List.setIfInBounds_toArray, List.set_cons_zero, List.set_cons_succ]
          refine take_at (i := 12) (v := ?_) rfl rfl (by kernel_rfl) (by kernel_rfl) (by kernel_rfl) (fun _ _ _ h => h) (by rfl) hS ?_ ?_
          rotate_left
          · intro w' hw
            obtain ⟨s0, s1, s2, s3⟩ := hw
            go_simp
            try with_reducible rfl
          try simp only [List.setIfInBounds_toArray, List.set_cons_zero, List.set_cons_succ]
          refine take_at (i := 13) (v := ?_) rfl rfl (by kernel_rfl) (by kernel_rfl) (by kernel_rfl) (fun _ _ _ h => h) (by rfl) hS ?_ ?_
          rotate_left
          · intro w' hw
            obtain ⟨s0, s1, s2, s3⟩ := hw
            go_simp
            try with_reducible rfl
          try simp only [List.setIfInBounds_toArray, List.set_cons_zero, List.set_cons_succ]
          refine take_at (i := 14) (v := ?_) rfl rfl (by kernel_rfl) (by kernel_rfl) (by kernel_rfl) (fun _ _ _ h => h) (by rfl) hS ?_ ?_
          rotate_left
          · intro w' hw
            obtain ⟨s0, s1, s2, s3⟩ := hw
            go_simp
            try with_reducible rfl
          try simp only [List.setIfInBounds_toArray, List.set_cons_zero, List.set_cons_succ]
          refine only_at (i := 15) rfl (by kernel_rfl) (by rfl) (fun K hK => ?_)
          go_simp
          refine (hgood _).mono ?_
          intro e2 w3 he
          obtain ⟨rfl, b3⟩ := he
          have b3' := below_in (Below.refl _ _).drew b3
          go_simp
          refine hK.out _ _ (hkeep _ b3') (fun hS => ?_)
          clear hK K
          try simp only [Act.put, List.setIfInBounds_toArray, List.set_cons_zero, List.set_cons_succ]
          refine take_at (i := 16) (v := ?_) rfl rfl (by kernel_rfl) (by kernel_rfl) (by kernel_rfl) (fun _ _ _ h => h) (by rfl) hS ?_ ?_
          rotate_left
          · intro w' hw
            obtain ⟨s0, s1, s2, s3⟩ := hw
            go_simp
            try with_reducible rfl
          try simp only [List.setIfInBounds_toArray, List.set_cons_zero, List.set_cons_succ]
          refine take_at (i := 17) (v := ?_) rfl rfl (by kernel_rfl) (by kernel_rfl) (by kernel_rfl) (fun _ _ _ h => h) (by rfl) hS ?_ ?_
          rotate_left
          · intro w' hw
            obtain ⟨s0, s1, s2, s3⟩ := hw
            go_simp
            try with_reducible rfl
          try simp only [List.setIfInBounds_toArray, List.set_cons_zero, List.set_cons_succ]
          refine wpAnyH_done (by kernel_rfl) ?_ _
          clear hS
          go_wp2_with fail
          go_ret
          exact ⟨rfl, below_in hbx b3'⟩
        | true =>
          rw [hgd] at hgood
          replace HS := Lib.hid (HS.out hgd)
          clear hgd
          go_wp2_with fail
          refine wp_region_held_drew (S := fun w' => w'.cell? ⟨wr.heap.size, 0, none⟩ = some (.int .i64 0) ∧ w'.cell? ⟨wr.heap.size, 1, none⟩ = some (.int .i64 nn) ∧ w'.cell? ⟨wr.heap.size, 2, none⟩ = some (.string ⟨tt.toArray⟩) ∧ w'.cell? ⟨cb, coff + k * 6 + 1, none⟩ = some (.int .i64 kc)) (by kernel_rfl) (hkeep _ (Below.refl _ _).drew) (fun hS => ?_)
          refine take_at (i := 0) (v := ?_) rfl rfl (by kernel_rfl) (by kernel_rfl) (by kernel_rfl) (fun _ _ _ h => h) (by rfl) hS ?_ ?_
          rotate_left
          · intro w' hw
            obtain ⟨s0, s1, s2, s3⟩ := hw
            go_simp
            try with_reducible rfl
          try simp only [List.setIfInBounds_toArray, List.set_cons_zero, List.set_cons_succ]
          refine take_at (i := 1) (v := ?_) rfl rfl (by kernel_rfl) (by kernel_rfl) (by kernel_rfl) (fun _ _ _ h => h) (by rfl) hS ?_ ?_
          rotate_left
          · intro w' hw
            obtain ⟨s0, s1, s2, s3⟩ := hw
            go_simp
            try with_reducible rfl
          try simp only [List.setIfInBounds_toArray, List.set_cons_zero, List.set_cons_succ]
          refine take_at (i := 2) (v := ?_) rfl rfl (by kernel_rfl) (by kernel_rfl) (by kernel_rfl) (fun _ _ _ h => h) (by rfl) hS ?_ ?_
          rotate_left
          · intro w' hw
            obtain ⟨s0, s1, s2, s3⟩ := hw
            go_simp
            try with_reducible rfl
          try simp only [List.setIfInBounds_toArray, List.set_cons_zero, List.set_cons_succ]
          refine take_at (i := 3) (v := ?_) rfl rfl (by kernel_rfl) (by kernel_rfl) (by kernel_rfl) (fun _ _ _ h => h) (by rfl) hS ?_ ?_
          rotate_left
          · intro w' hw
            obtain ⟨s0, s1, s2, s3⟩ := hw
            go_simp
            try with_reducible rfl
          try simp only [List.setIfInBounds_toArray, List.set_cons_zero, List.set_cons_succ]
          refine skip_at (i := 4) rfl rfl (by kernel_rfl) (by kernel_rfl) (by kernel_rfl) (fun _ _ _ h => h) (by rfl) hS ?_
          try simp only [List.setIfInBounds_toArray, List.set_cons_zero, List.set_cons_succ]
          refine skip_at (i := 5) rfl rfl (by kernel_rfl) (by kernel_rfl) (by kernel_rfl) (fun _ _ _ h => h) (by rfl) hS ?_
          try simp only [List.setIfInBounds_toArray, List.set_cons_zero, List.set_cons_succ]
          refine skip_at (i := 6) rfl rfl (by kernel_rfl) (by kernel_rfl) (by kernel_rfl) (fun _ _ _ h => h) (by rfl) hS ?_
          try simp only [List.setIfInBounds_toArray, List.set_cons_zero, List.set_cons_succ]
          refine skip_at (i := 7) rfl rfl (by kernel_rfl) (by kernel_rfl) (by kernel_rfl) (fun _ _ _ h => h) (by rfl) hS ?_
          try simp only [List.setIfInBounds_toArray, List.set_cons_zero, List.set_cons_succ]
          refine skip_at (i := 8) rfl rfl (by kernel_rfl) (by kernel_rfl) (by kernel_rfl) (fun _ _ _ h => h) (by rfl) hS ?_
          try simp only [List.setIfInBounds_toArray, List.set_cons_zero, List.set_cons_succ]
          refine skip_at (i := 9) rfl rfl (by kernel_rfl) (by kernel_rfl) (by kernel_rfl) (fun _ _ _ h => h) (by rfl) hS ?_
          try simp only [List.setIfInBounds_toArray, List.set_cons_zero, List.set_cons_succ]
          refine skip_at (i := 10) rfl rfl (by kernel_rfl) (by kernel_rfl) (by kernel_rfl) (fun _ _ _ h => h) (by rfl) hS ?_
          try simp only [List.setIfInBounds_toArray, List.set_cons_zero, List.set_cons_succ]
          refine skip_at (i := 11) rfl rfl (by kernel_rfl) (by kernel_rfl) (by kernel_rfl) (fun _ _ _ h => h) (by rfl) hS ?_
          try simp only [List.setIfInBounds_toArray, List.set_cons_zero, List.set_cons_succ]
          refine take_at (i := 12) (v := ?_) rfl rfl (by kernel_rfl) (by kernel_rfl) (by kernel_rfl) (fun _ _ _ h => h) (by rfl) hS ?_ ?_
          rotate_left
          · intro w' hw
            obtain ⟨s0, s1, s2, s3⟩ := hw
            go_simp
            try with_reducible rfl
          try simp only [List.setIfInBounds_toArray, List.set_cons_zero, List.set_cons_succ]
          refine take_at (i := 13) (v := ?_) rfl rfl (by kernel_rfl) (by kernel_rfl) (by kernel_rfl) (fun _ _ _ h => h) (by rfl) hS ?_ ?_
          rotate_left
          · intro w' hw
            obtain ⟨s0, s1, s2, s3⟩ := hw
            go_simp
            try with_reducible rfl
          try simp only [List.setIfInBounds_toArray, List.set_cons_zero, List.set_cons_succ]
          refine take_at (i := 14) (v := ?_) rfl rfl (by kernel_rfl) (by kernel_rfl) (by kernel_rfl) (fun _ _ _ h => h) (by rfl) hS ?_ ?_
          rotate_left
          · intro w' hw
            obtain ⟨s0, s1, s2, s3⟩ := hw
            go_simp
            try with_reducible rfl
          try simp only [List.setIfInBounds_toArray, List.set_cons_zero, List.set_cons_succ]
          refine only_at (i := 15) rfl (by kernel_rfl) (by rfl) (fun K hK => ?_)
          go_simp
          refine (hgood _).mono ?_
          intro e2 w3 he
          obtain ⟨rfl, b3⟩ := he
          have b3' := below_in (Below.refl _ _).drew b3
          go_simp
          refine hK.out _ _ (hkeep _ b3') (fun hS => ?_)
          clear hK K
          try simp only [Act.put, List.setIfInBounds_toArray, List.set_cons_zero, List.set_cons_succ]
          refine take_at (i := 16) (v := ?_) rfl rfl (by kernel_rfl) (by kernel_rfl) (by kernel_rfl) (fun _ _ _ h => h) (by rfl) hS ?_ ?_
          rotate_left
          · intro w' hw
            obtain ⟨s0, s1, s2, s3⟩ := hw
            go_simp
            try with_reducible rfl
          try simp only [List.setIfInBounds_toArray, List.set_cons_zero, List.set_cons_succ]
          refine take_at (i := 17) (v := ?_) rfl rfl (by kernel_rfl) (by kernel_rfl) (by kernel_rfl) (fun _ _ _ h => h) (by rfl) hS ?_ ?_
          rotate_left
          · intro w' hw
            obtain ⟨s0, s1, s2, s3⟩ := hw
            go_simp
            try with_reducible rfl
          try simp only [List.setIfInBounds_toArray, List.set_cons_zero, List.set_cons_succ]
          refine wpAnyH_done (by kernel_rfl) ?_ _
          clear hS
          go_wp2_with fail
          exact ⟨⟨k + 1, by omega, by go_num, Lib.hid (HS.out (.inl trivial)), below_in hbx b3', hAx.below b3' hAx.lt⟩, by simp [intOf]; omega⟩
      · have hd : (kk != 0) = true := by simpa using hk0
        by_cases hkc : kk = kc
        · subst hkc
          have hd2 : (kk != kk) = false := by simp
          clear hk0
          cases hgd : goodV ⟨kk, nn, tt⟩ with
          | false =>
            rw [hgd] at hgood
            clear hgd HS
            go_wp2_with fail
            refine wp_region_held_drew (S := fun w' => w'.cell? ⟨wr.heap.size, 0, none⟩ = some (.int .i64 kk) ∧ w'.cell? ⟨wr.heap.size, 1, none⟩ = some (.int .i64 nn) ∧ w'.cell? ⟨wr.heap.size, 2, none⟩ = some (.string ⟨tt.toArray⟩) ∧ w'.cell? ⟨cb, coff + k * 6 + 1, none⟩ = some (.int .i64 kk)) (by kernel_rfl) (hkeep _ (Below.refl _ _).drew) (fun hS => ?_)
            refine take_at (i := 0) (v := ?_) rfl rfl (by kernel_rfl) (by kernel_rfl) (by kernel_rfl) (fun _ _ _ h => h) (by rfl) hS ?_ ?_
            rotate_left
            · intro w' hw
              obtain ⟨s0, s1, s2, s3⟩ := hw
              go_simp
              try with_reducible rfl
            try simp only [List.setIfInBounds_toArray, List.set_cons_zero, List.set_cons_succ]
            refine take_at (i := 1) (v := ?_) rfl rfl (by kernel_rfl) (by kernel_rfl) (by kernel_rfl) (fun _ _ _ h => h) (by rfl) hS ?_ ?_
            rotate_left
            · intro w' hw
              obtain ⟨s0, s1, s2, s3⟩ := hw
              go_simp
              try with_reducible rfl
            try simp only [List.setIfInBounds_toArray, List.set_cons_zero, List.set_cons_succ]
            refine take_at (i := 2) (v := ?_) rfl rfl (by kernel_rfl) (by kernel_rfl) (by kernel_rfl) (fun _ _ _ h => h) (by rfl) hS ?_ ?_
            rotate_left
            · intro w' hw
              obtain ⟨s0, s1, s2, s3⟩ := hw
              go_simp
              try with_reducible rfl
            try simp only [List.setIfInBounds_toArray, List.set_cons_zero, List.set_cons_succ]
            refine take_at (i := 3) (v := ?_) rfl rfl (by kernel_rfl) (by kernel_rfl) (by kernel_rfl) (fun _ _ _ h => h) (by rfl) hS ?_ ?_
            rotate_left
            · intro w' hw
              obtain ⟨s0, s1, s2, s3⟩ := hw
              go_simp
              try with_reducible rfl
            try simp only [List.setIfInBounds_toArray, List.set_cons_zero, List.set_cons_succ]
            refine take_at (i := 4) (v := ?_) rfl rfl (by kernel_rfl) (by kernel_rfl) (by kernel_rfl) (fun _ _ _ h => h) (by rfl) hS ?_ ?_
            rotate_left
            · intro w' hw
              obtain ⟨s0, s1, s2, s3⟩ := hw
              go_simp
              try with_reducible rfl
            try simp only [List.setIfInBounds_toArray, List.set_cons_zero, List.set_cons_succ]
            refine take_at (i := 5) (v := ?_) rfl rfl (by kernel_rfl) (by kernel_rfl) (by kernel_rfl) (fun _ _ _ h => h) (by rfl) hS ?_ ?_
            rotate_left
            · intro w' hw
              obtain ⟨s0, s1, s2, s3⟩ := hw
              go_simp
              try with_reducible rfl
            try simp only [List.setIfInBounds_toArray, List.set_cons_zero, List.set_cons_succ]
            refine take_at (i := 6) (v := ?_) rfl rfl (by kernel_rfl) (by kernel_rfl) (by kernel_rfl) (fun _ _ _ h => h) (by rfl) hS ?_ ?_
            rotate_left
            · intro w' hw
              obtain ⟨s0, s1, s2, s3⟩ := hw
              go_simp
              try with_reducible rfl
            try simp only [List.setIfInBounds_toArray, List.set_cons_zero, List.set_cons_succ]
            refine take_at (i := 7) (v := ?_) rfl rfl (by kernel_rfl) (by kernel_rfl) (by kernel_rfl) (fun _ _ _ h => h) (by rfl) hS ?_ ?_
            rotate_left
            · intro w' hw
              obtain ⟨s0, s1, s2, s3⟩ := hw
              go_simp
              try with_reducible rfl
            try simp only [List.setIfInBounds_toArray, List.set_cons_zero, List.set_cons_succ]
            refine take_at (i := 8) (v := ?_) rfl rfl (by kernel_rfl) (by kernel_rfl) (by kernel_rfl) (fun _ _ _ h => h) (by rfl) hS ?_ ?_
            rotate_left
            · intro w' hw
              obtain ⟨s0, s1, s2, s3⟩ := hw
              go_simp
              try with_reducible rfl
            try simp only [List.setIfInBounds_toArray, List.set_cons_zero, List.set_cons_succ]
            refine take_at (i := 9) (v := ?_) rfl rfl (by kernel_rfl) (by kernel_rfl) (by kernel_rfl) (fun _ _ _ h => h) (by rfl) hS ?_ ?_
            rotate_left
            · intro w' hw
              obtain ⟨s0, s1, s2, s3⟩ := hw
              go_simp
              try with_reducible rfl
            try simp only [List.setIfInBounds_toArray, List.set_cons_zero, List.set_cons_succ]
            refine take_at (i := 10) (v := ?_) rfl rfl (by kernel_rfl) (by kernel_rfl) (by kernel_rfl) (fun _ _ _ h => h) (by rfl) hS ?_ ?_
            rotate_left
            · intro w' hw
              obtain ⟨s0, s1, s2, s3⟩ := hw
              go_simp
              try with_reducible rfl
            try simp only [List.setIfInBounds_toArray, List.set_cons_zero, List.set_cons_succ]
            refine take_at (i := 11) (v := ?_) rfl rfl (by kernel_rfl) (by kernel_rfl) (by kernel_rfl) (fun _ _ _ h => h) (by rfl) hS ?_ ?_
            rotate_left
            · intro w' hw
              obtain ⟨s0, s1, s2, s3⟩ := hw
              go_simp
              try with_reducible rfl
            try simp only [List.setIfInBounds_toArray, List.set_cons_zero, List.set_cons_succ]
            refine take_at (i := 12) (v := ?_) rfl rfl (by kernel_rfl) (by kernel_rfl) (by kernel_rfl) (fun _ _ _ h => h) (by rfl) hS ?_ ?_
            rotate_left
            · intro w' hw
              obtain ⟨s0, s1, s2, s3⟩ := hw
              go_simp
              try with_reducible rfl
            try simp only [List.setIfInBounds_toArray, List.set_cons_zero, List.set_cons_succ]
            refine take_at (i := 13) (v := ?_) rfl rfl (by kernel_rfl) (by kernel_rfl) (by kernel_rfl) (fun _ _ _ h => h) (by rfl) hS ?_ ?_
            rotate_left
            · intro w' hw
              obtain ⟨s0, s1, s2, s3⟩ := hw
              go_simp
              try with_reducible rfl
            try simp only [List.setIfInBounds_toArray, List.set_cons_zero, List.set_cons_succ]
            refine take_at (i := 14) (v := ?_) rfl rfl (by kernel_rfl) (by kernel_rfl) (by kernel_rfl) (fun _ _ _ h => h) (by rfl) hS ?_ ?_
            rotate_left
            · intro w' hw
              obtain ⟨s0, s1, s2, s3⟩ := hw
              go_simp
              try with_reducible rfl
            try simp only [List.setIfInBounds_toArray, List.set_cons_zero, List.set_cons_succ]
            refine only_at (i := 15) rfl (by kernel_rfl) (by rfl) (fun K hK => ?_)
            go_simp
            refine (hgood _).mono ?_
            intro e2 w3 he
            obtain ⟨rfl, b3⟩ := he
            have b3' := below_in (Below.refl _ _).drew b3
            go_simp
            refine hK.out _ _ (hkeep _ b3') (fun hS => ?_)
            clear hK K
            try simp only [Act.put, List.setIfInBounds_toArray, List.set_cons_zero, List.set_cons_succ]
            refine take_at (i := 16) (v := ?_) rfl rfl (by kernel_rfl) (by kernel_rfl) (by kernel_rfl) (fun _ _ _ h => h) (by rfl) hS ?_ ?_
            rotate_left
            · intro w' hw
              obtain ⟨s0, s1, s2, s3⟩ := hw
              go_simp
              try with_reducible rfl
            try simp only [List.setIfInBounds_toArray, List.set_cons_zero, List.set_cons_succ]
            refine take_at (i := 17) (v := ?_) rfl rfl (by kernel_rfl) (by kernel_rfl) (by kernel_rfl) (fun _ _ _ h => h) (by rfl) hS ?_ ?_
            rotate_left
            · intro w' hw
              obtain ⟨s0, s1, s2, s3⟩ := hw
              go_simp
              try with_reducible rfl
            try simp only [List.setIfInBounds_toArray, List.set_cons_zero, List.set_cons_succ]
            refine wpAnyH_done (by kernel_rfl) ?_ _
            clear hS
            go_wp2_with fail
            go_ret
            exact ⟨rfl, below_in hbx b3'⟩
          | true =>
            rw [hgd] at hgood
            replace HS := Lib.hid (HS.out hgd)
            clear hgd
            go_wp2_with fail
            refine wp_region_held_drew (S := fun w' => w'.cell? ⟨wr.heap.size, 0, none⟩ = some (.int .i64 kk) ∧ w'.cell? ⟨wr.heap.size, 1, none⟩ = some (.int .i64 nn) ∧ w'.cell? ⟨wr.heap.size, 2, none⟩ = some (.string ⟨tt.toArray⟩) ∧ w'.cell? ⟨cb, coff + k * 6 + 1, none⟩ = some (.int .i64 kk)) (by kernel_rfl) (hkeep _ (Below.refl _ _).drew) (fun hS => ?_)
            refine take_at (i := 0) (v := ?_) rfl rfl (by kernel_rfl) (by kernel_rfl) (by kernel_rfl) (fun _ _ _ h => h) (by rfl) hS ?_ ?_
            rotate_left
            · intro w' hw
              obtain ⟨s0, s1, s2, s3⟩ := hw
              go_simp
              try with_reducible rfl
            try simp only [List.setIfInBounds_toArray, List.set_cons_zero, List.set_cons_succ]
            refine take_at (i := 1) (v := ?_) rfl rfl (by kernel_rfl) (by kernel_rfl) (by kernel_rfl) (fun _ _ _ h => h) (by rfl) hS ?_ ?_
            rotate_left
            · intro w' hw
              obtain ⟨s0, s1, s2, s3⟩ := hw
              go_simp
              try with_reducible rfl
            try simp only [List.setIfInBounds_toArray, List.set_cons_zero, List.set_cons_succ]
            refine take_at (i := 2) (v := ?_) rfl rfl (by kernel_rfl) (by kernel_rfl) (by kernel_rfl) (fun _ _ _ h => h) (by rfl) hS ?_ ?_
            rotate_left
            · intro w' hw
              obtain ⟨s0, s1, s2, s3⟩ := hw
              go_simp
              try with_reducible rfl
            try simp only [List.setIfInBounds_toArray, List.set_cons_zero, List.set_cons_succ]
            refine take_at (i := 3) (v := ?_) rfl rfl (by kernel_rfl) (by kernel_rfl) (by kernel_rfl) (fun _ _ _ h => h) (by rfl) hS ?_ ?_
            rotate_left
            · intro w' hw
              obtain ⟨s0, s1, s2, s3⟩ := hw
              go_simp
              try with_reducible rfl
            try simp only [List.setIfInBounds_toArray, List.set_cons_zero, List.set_cons_succ]
            refine take_at (i := 4) (v := ?_) rfl rfl (by kernel_rfl) (by kernel_rfl) (by kernel_rfl) (fun _ _ _ h => h) (by rfl) hS ?_ ?_
            rotate_left
            · intro w' hw
              obtain ⟨s0, s1, s2, s3⟩ := hw
              go_simp
              try with_reducible rfl
            try simp only [List.setIfInBounds_toArray, List.set_cons_zero, List.set_cons_succ]
            refine take_at (i := 5) (v := ?_) rfl rfl (by kernel_rfl) (by kernel_rfl) (by kernel_rfl) (fun _ _ _ h => h) (by rfl) hS ?_ ?_
            rotate_left
            · intro w' hw
              obtain ⟨s0, s1, s2, s3⟩ := hw
              go_simp
              try with_reducible rfl
            try simp only [List.setIfInBounds_toArray, List.set_cons_zero, List.set_cons_succ]
            refine take_at (i := 6) (v := ?_) rfl rfl (by kernel_rfl) (by kernel_rfl) (by kernel_rfl) (fun _ _ _ h => h) (by rfl) hS ?_ ?_
            rotate_left
            · intro w' hw
              obtain ⟨s0, s1, s2, s3⟩ := hw
              go_simp
              try with_reducible rfl
            try simp only [List.setIfInBounds_toArray, List.set_cons_zero, List.set_cons_succ]
            refine take_at (i := 7) (v := ?_) rfl rfl (by kernel_rfl) (by kernel_rfl) (by kernel_rfl) (fun _ _ _ h => h) (by rfl) hS ?_ ?_
            rotate_left
            · intro w' hw
              obtain ⟨s0, s1, s2, s3⟩ := hw
              go_simp
              try with_reducible rfl
            try simp only [List.setIfInBounds_toArray, List.set_cons_zero, List.set_cons_succ]
            refine take_at (i := 8) (v := ?_) rfl rfl (by kernel_rfl) (by kernel_rfl) (by kernel_rfl) (fun _ _ _ h => h) (by rfl) hS ?_ ?_
            rotate_left
            · intro w' hw
              obtain ⟨s0, s1, s2, s3⟩ := hw
              go_simp
              try with_reducible rfl
            try simp only [List.setIfInBounds_toArray, List.set_cons_zero, List.set_cons_succ]
            refine take_at (i := 9) (v := ?_) rfl rfl (by kernel_rfl) (by kernel_rfl) (by kernel_rfl) (fun _ _ _ h => h) (by rfl) hS ?_ ?_
            rotate_left
            · intro w' hw
              obtain ⟨s0, s1, s2, s3⟩ := hw
              go_simp
              try with_reducible rfl
            try simp only [List.setIfInBounds_toArray, List.set_cons_zero, List.set_cons_succ]
            refine take_at (i := 10) (v := ?_) rfl rfl (by kernel_rfl) (by kernel_rfl) (by kernel_rfl) (fun _ _ _ h => h) (by rfl) hS ?_ ?_
            rotate_left
            · intro w' hw
              obtain ⟨s0, s1, s2, s3⟩ := hw
              go_simp
              try with_reducible rfl
            try simp only [List.setIfInBounds_toArray, List.set_cons_zero, List.set_cons_succ]
            refine take_at (i := 11) (v := ?_) rfl rfl (by kernel_rfl) (by kernel_rfl) (by kernel_rfl) (fun _ _ _ h => h) (by rfl) hS ?_ ?_
            rotate_left
            · intro w' hw
              obtain ⟨s0, s1, s2, s3⟩ := hw
              go_simp
              try with_reducible rfl
            try simp only [List.setIfInBounds_toArray, List.set_cons_zero, List.set_cons_succ]
            refine take_at (i := 12) (v := ?_) rfl rfl (by kernel_rfl) (by kernel_rfl) (by kernel_rfl) (fun _ _ _ h => h) (by rfl) hS ?_ ?_
            rotate_left
            · intro w' hw
              obtain ⟨s0, s1, s2, s3⟩ := hw
              go_simp
              try with_reducible rfl
            try simp only [List.setIfInBounds_toArray, List.set_cons_zero, List.set_cons_succ]
            refine take_at (i := 13) (v := ?_) rfl rfl (by kernel_rfl) (by kernel_rfl) (by kernel_rfl) (fun _ _ _ h => h) (by rfl) hS ?_ ?_
            rotate_left
            · intro w' hw
              obtain ⟨s0, s1, s2, s3⟩ := hw
              go_simp
              try with_reducible rfl
            try simp only [List.setIfInBounds_toArray, List.set_cons_zero, List.set_cons_succ]
            refine take_at (i := 14) (v := ?_) rfl rfl (by kernel_rfl) (by kernel_rfl) (by kernel_rfl) (fun _ _ _ h => h) (by rfl) hS ?_ ?_
            rotate_left
            · intro w' hw
              obtain ⟨s0, s1, s2, s3⟩ := hw
              go_simp
              try with_reducible rfl
            try simp only [List.setIfInBounds_toArray, List.set_cons_zero, List.set_cons_succ]
            refine only_at (i := 15) rfl (by kernel_rfl) (by rfl) (fun K hK => ?_)
            go_simp
            refine (hgood _).mono ?_
            intro e2 w3 he
            obtain ⟨rfl, b3⟩ := he
            have b3' := below_in (Below.refl _ _).drew b3
            go_simp
            refine hK.out _ _ (hkeep _ b3') (fun hS => ?_)
            clear hK K
            try simp only [Act.put, List.setIfInBounds_toArray, List.set_cons_zero, List.set_cons_succ]
            refine take_at (i := 16) (v := ?_) rfl rfl (by kernel_rfl) (by kernel_rfl) (by kernel_rfl) (fun _ _ _ h => h) (by rfl) hS ?_ ?_
            rotate_left
            · intro w' hw
              obtain ⟨s0, s1, s2, s3⟩ := hw
              go_simp
              try with_reducible rfl
            try simp only [List.setIfInBounds_toArray, List.set_cons_zero, List.set_cons_succ]
            refine take_at (i := 17) (v := ?_) rfl rfl (by kernel_rfl) (by kernel_rfl) (by kernel_rfl) (fun _ _ _ h => h) (by rfl) hS ?_ ?_
            rotate_left
            · intro w' hw
              obtain ⟨s0, s1, s2, s3⟩ := hw
              go_simp
              try with_reducible rfl
            try simp only [List.setIfInBounds_toArray, List.set_cons_zero, List.set_cons_succ]
            refine wpAnyH_done (by kernel_rfl) ?_ _
            clear hS
            go_wp2_with fail
            exact ⟨⟨k + 1, by omega, by go_num, Lib.hid (HS.out (.inr trivial)), below_in hbx b3', hAx.below b3' hAx.lt⟩, by simp [intOf]; omega⟩
        · have hd2 : (kk != kc) = true := by simpa using hkc
          clear hk0 hkc HS
          go_wp2_with fail
          refine wp_region_held_drew (S := fun w' => w'.cell? ⟨wr.heap.size, 0, none⟩ = some (.int .i64 kk) ∧ w'.cell? ⟨wr.heap.size, 1, none⟩ = some (.int .i64 nn) ∧ w'.cell? ⟨wr.heap.size, 2, none⟩ = some (.string ⟨tt.toArray⟩) ∧ w'.cell? ⟨cb, coff + k * 6 + 1, none⟩ = some (.int .i64 kc)) (by kernel_rfl) (hkeep _ (Below.refl _ _).drew) (fun hS => ?_)
          refine take_at (i := 0) (v := ?_) rfl rfl (by kernel_rfl) (by kernel_rfl) (by kernel_rfl) (fun _ _ _ h => h) (by rfl) hS ?_ ?_
          rotate_left
          · intro w' hw
            obtain ⟨s0, s1, s2, s3⟩ := hw
            go_simp
            try with_reducible rfl
          try simp only [List.setIfInBounds_toArray, List.set_cons_zero, List.set_cons_succ]
          refine take_at (i := 1) (v := ?_) rfl rfl (by kernel_rfl) (by kernel_rfl) (by kernel_rfl) (fun _ _ _ h => h) (by rfl) hS ?_ ?_
          rotate_left
          · intro w' hw
            obtain ⟨s0, s1, s2, s3⟩ := hw
            go_simp
            try with_reducible rfl
          try simp only [List.setIfInBounds_toArray, List.set_cons_zero, List.set_cons_succ]
          refine take_at (i := 2) (v := ?_) rfl rfl (by kernel_rfl) (by kernel_rfl) (by kernel_rfl) (fun _ _ _ h => h) (by rfl) hS ?_ ?_
          rotate_left
          · intro w' hw
            obtain ⟨s0, s1, s2, s3⟩ := hw
            go_simp
            try with_reducible rfl
          try simp only [List.setIfInBounds_toArray, List.set_cons_zero, List.set_cons_succ]
          refine take_at (i := 3) (v := ?_) rfl rfl (by kernel_rfl) (by kernel_rfl) (by kernel_rfl) (fun _ _ _ h => h) (by rfl) hS ?_ ?_
          rotate_left
          · intro w' hw
            obtain ⟨s0, s1, s2, s3⟩ := hw
            go_simp
            try with_reducible rfl
          try simp only [List.setIfInBounds_toArray, List.set_cons_zero, List.set_cons_succ]
          refine take_at (i := 4) (v := ?_) rfl rfl (by kernel_rfl) (by kernel_rfl) (by kernel_rfl) (fun _ _ _ h => h) (by rfl) hS ?_ ?_
          rotate_left
          · intro w' hw
            obtain ⟨s0, s1, s2, s3⟩ := hw
            go_simp
            try with_reducible rfl
          try simp only [List.setIfInBounds_toArray, List.set_cons_zero, List.set_cons_succ]
          refine take_at (i := 5) (v := ?_) rfl rfl (by kernel_rfl) (by kernel_rfl) (by kernel_rfl) (fun _ _ _ h => h) (by rfl) hS ?_ ?_
          rotate_left
          · intro w' hw
            obtain ⟨s0, s1, s2, s3⟩ := hw
            go_simp
            try with_reducible rfl
          try simp only [List.setIfInBounds_toArray, List.set_cons_zero, List.set_cons_succ]
          refine take_at (i := 6) (v := ?_) rfl rfl (by kernel_rfl) (by kernel_rfl) (by kernel_rfl) (fun _ _ _ h => h) (by rfl) hS ?_ ?_
          rotate_left
          · intro w' hw
            obtain ⟨s0, s1, s2, s3⟩ := hw
            go_simp
            try with_reducible rfl
          try simp only [List.setIfInBounds_toArray, List.set_cons_zero, List.set_cons_succ]
          refine take_at (i := 7) (v := ?_) rfl rfl (by kernel_rfl) (by kernel_rfl) (by kernel_rfl) (fun _ _ _ h => h) (by rfl) hS ?_ ?_
          rotate_left
          · intro w' hw
            obtain ⟨s0, s1, s2, s3⟩ := hw
            go_simp
            try with_reducible rfl
          try simp only [List.setIfInBounds_toArray, List.set_cons_zero, List.set_cons_succ]
          refine take_at (i := 8) (v := ?_) rfl rfl (by kernel_rfl) (by kernel_rfl) (by kernel_rfl) (fun _ _ _ h => h) (by rfl) hS ?_ ?_
          rotate_left
          · intro w' hw
            obtain ⟨s0, s1, s2, s3⟩ := hw
            go_simp
            try with_reducible rfl
          try simp only [List.setIfInBounds_toArray, List.set_cons_zero, List.set_cons_succ]
          refine take_at (i := 9) (v := ?_) rfl rfl (by kernel_rfl) (by kernel_rfl) (by kernel_rfl) (fun _ _ _ h => h) (by rfl) hS ?_ ?_
          rotate_left
          · intro w' hw
            obtain ⟨s0, s1, s2, s3⟩ := hw
            go_simp
            try with_reducible rfl
          try simp only [List.setIfInBounds_toArray, List.set_cons_zero, List.set_cons_succ]
          refine take_at (i := 10) (v := ?_) rfl rfl (by kernel_rfl) (by kernel_rfl) (by kernel_rfl) (fun _ _ _ h => h) (by rfl) hS ?_ ?_
          rotate_left
          · intro w' hw
            obtain ⟨s0, s1, s2, s3⟩ := hw
            go_simp
            try with_reducible rfl
          try simp only [List.setIfInBounds_toArray, List.set_cons_zero, List.set_cons_succ]
          refine take_at (i := 11) (v := ?_) rfl rfl (by kernel_rfl) (by kernel_rfl) (by kernel_rfl) (fun _ _ _ h => h) (by rfl) hS ?_ ?_
          rotate_left
          · intro w' hw
            obtain ⟨s0, s1, s2, s3⟩ := hw
            go_simp
            try with_reducible rfl
          try simp only [List.setIfInBounds_toArray, List.set_cons_zero, List.set_cons_succ]
          refine take_at (i := 12) (v := ?_) rfl rfl (by kernel_rfl) (by kernel_rfl) (by kernel_rfl) (fun _ _ _ h => h) (by rfl) hS ?_ ?_
          rotate_left
          · intro w' hw
            obtain ⟨s0, s1, s2, s3⟩ := hw
            go_simp
            try with_reducible rfl
          try simp only [List.setIfInBounds_toArray, List.set_cons_zero, List.set_cons_succ]
          refine take_at (i := 13) (v := ?_) rfl rfl (by kernel_rfl) (by kernel_rfl) (by kernel_rfl) (fun _ _ _ h => h) (by rfl) hS ?_ ?_
          rotate_left
          · intro w' hw
            obtain ⟨s0, s1, s2, s3⟩ := hw
            go_simp
            try with_reducible rfl
          try simp only [List.setIfInBounds_toArray, List.set_cons_zero, List.set_cons_succ]
          refine skip_at (i := 14) rfl rfl (by kernel_rfl) (by kernel_rfl) (by kernel_rfl) (fun _ _ _ h => h) (by rfl) hS ?_
          try simp only [List.setIfInBounds_toArray, List.set_cons_zero, List.set_cons_succ]
          refine skip_at (i := 15) rfl rfl (by kernel_rfl) (by kernel_rfl) (by kernel_rfl) (fun _ _ _ h => h) (by rfl) hS ?_
          try simp only [List.setIfInBounds_toArray, List.set_cons_zero, List.set_cons_succ]
          refine skip_at (i := 16) rfl rfl (by kernel_rfl) (by kernel_rfl) (by kernel_rfl) (fun _ _ _ h => h) (by rfl) hS ?_
          try simp only [List.setIfInBounds_toArray, List.set_cons_zero, List.set_cons_succ]
          refine take_at (i := 17) (v := ?_) rfl rfl (by kernel_rfl) (by kernel_rfl) (by kernel_rfl) (fun _ _ _ h => h) (by rfl) hS ?_ ?_
          rotate_left
          · intro w' hw
            obtain ⟨s0, s1, s2, s3⟩ := hw
            go_simp
            try with_reducible rfl
          try simp only [List.setIfInBounds_toArray, List.set_cons_zero, List.set_cons_succ]
          refine wpAnyH_done (by kernel_rfl) ?_ _
          clear hS
          go_wp2_with fail
          go_ret
          exact ⟨rfl, hbx.drew⟩
    · obtain rfl : k = n := by omega
      have F : Fits ks vs := ⟨hc.1.trans hv.1.symm, fun i hi => (hfit.out i (by rw [← hv.1]; exact hi)).1, fun i hi => (hfit.out i (by rw [← hv.1]; exact hi)).2⟩
      have hsafe := fun k' => safeX F (e := e) (k := k')
      have hvok : ∀ v, valX vs e = some v → v.Ok := fun v hve => by
        unfold valX at hve
        split at hve
        · cases hve
        · exact val_ok hok e v hin hve
      clear F hfit hc hv hok hin
      have hEw := fun w1 (b1 : Below wr.heap.size wr w1) => hE w1 (below_in hbr b1)
      have hK1 := hK _ hbr
      clear hE hK
      generalize valX vs e = rv at *
      generalize kindX ks e = rk at *
      obtain ⟨c0, c1, c2, c3, c4, c5⟩ := hAr.six
      go_wp2_with fail
      refine hK1.mono ?_
      intro en w3 he
      obtain ⟨he, b3⟩ := he
      have hb3 := below_in hbr b3
      have hAr3 := hAr.below b3 hAr.lt
      clear c0 c1 c2 c3 c4 c5
      cases rk with
      | none =>
        obtain ⟨z, hz, rfl⟩ := he
        have hz' : (z != 0) = true := by simpa using hz
        go_wp2_with fail
        go_ret
        exact ⟨rfl, hb3⟩
      | some kd =>
        obtain rfl := he
        obtain ⟨v, rfl, hkept, hgv⟩ := hsafe kd rfl
        have hvo := hvok v rfl
        have hgood := rgood_any v hvo
        obtain ⟨c0, c1, c2, c3, c4, c5⟩ := hAr3.six
        have hE3 := hEw _ b3
        obtain ⟨v0, v1, v2⟩ := v
        rw [hgv] at hgood
        unfold EndVE at hE3
        simp only [Vl.val] at hE3 hgood
        go_wp2_with fail
        refine hE3.mono ?_
        intro en w4 he
        obtain ⟨rfl, b4⟩ := he
        have hb4 := below_in hb3 b4
        clear c0 c1 c2 c3 c4 c5
        have hbx := below_box w4 (.cells (cs3 v0 v1 v2) 23)
        unfold cs3 at hbx
        have hbq := below_in hb4 hbx
        by_cases hv0 : v0 = 0
        · subst hv0
          clear hkept
          go_wp2_with fail
          refine (hgood _).mono ?_
          intro en w5 he
          obtain ⟨rfl, b5⟩ := he
          go_wp2_with fail
          go_ret
          exact ⟨rfl, below_in hbq b5⟩
        · obtain rfl : v0 = kd := hkept.resolve_left hv0
          have hv0' : (v0 == 0) = false := by simpa using hv0
          clear hkept
          go_wp2_with fail
          refine (hgood _).mono ?_
          intro en w5 he
          obtain ⟨rfl, b5⟩ := he
          go_wp2_with fail
          go_ret
          exact ⟨rfl, below_in hbq b5⟩
end Go.Proofs.Ytfgmhilmjkpeeaa
