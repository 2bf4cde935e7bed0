/- The walks of great and alive. -/
import Derived.Test.YtfgmhilmjkpeeaaExN
import Derived.Deep.DeepCutAuto
namespace Go.Proofs.Ytfgmhilmjkpeeaa
open Go.RowKit

theorem ok_at {vs : List Vl} (h : ∀ v ∈ vs, v.Ok) {k : Nat} (hk : k < vs.length) : (vs.getD k default).Ok := by
  rw [List.getD_eq_getElem?_getD, List.getElem?_eq_getElem hk]
  exact h _ (List.getElem_mem hk)
set_option maxRecDepth 100000 in
set_option maxHeartbeats 1600000 in
theorem great_any (e : Ex) (A : Option Addr) (n cap : Nat) (vs : List Vl) (w : World) (hin : InE w e) (hv : Vals w A n vs) (hok : ∀ v ∈ vs, v.Ok) (hn : n ≤ maxLen) :
    Calls Try.prog 7 #[e.val, .slice A n cap] w fun en w' => IsBool en ∧ Below w.heap.size w w' := by
  unfold maxLen at hn
  have hvl := hv.1
  have hb := below_box w (.cells #[.int .i64 e.op, .int .i64 e.col, .int .i64 e.v.kind, .int .i64 e.v.num, .string ⟨e.v.text.toArray⟩, .slice e.A e.n e.cap] 26)
  have hA := At.fresh w 26 #[.int .i64 e.op, .int .i64 e.col, .int .i64 e.v.kind, .int .i64 e.v.num, .string ⟨e.v.text.toArray⟩, .slice e.A e.n e.cap]
  have hg := fun w1 (b1 : Below w.heap.size w w1) => refGreat_any e w1 (hin.below b1)
  unfold Ex.val at *
  go_enter Try.func7, Try.ntmps7
  go_wp2_with fail
  go_loopw [9] (fun i wr => ∃ k : Nat, k ≤ n ∧ i = .int .i64 k ∧ Below w.heap.size w wr ∧ At wr w.heap.size 26 #[.int .i64 e.op, .int .i64 e.col, .int .i64 e.v.kind, .int .i64 e.v.num, .string ⟨e.v.text.toArray⟩, .slice e.A e.n e.cap]) (fun i _ => n - (intOf i).toNat)
  case atStart => exact ⟨0, by omega, rfl, hb, hA⟩
  case round =>
    obtain ⟨k, hk, rfl, hbr, hAr⟩ := hrel
    clear hA hb
    by_cases hlt : k < n
    · obtain ⟨b, off, rfl, hbl, hcell⟩ := (hv.below hbr).2 (by omega)
      obtain ⟨c0, c1, c2⟩ := hcell k hlt
      have hok1 := ok_at hok (k := k) (by omega)
      clear hcell hg hv
      generalize vs.getD k default = x at *
      obtain ⟨kk, nn, tt⟩ := x
      have hm : tt.length ≤ 9223372036854775807 := by have := hok1.text; unfold maxLen at this; simp at this; omega
      clear hok1
      simp only at c0 c1 c2
      have hbx := below_box wr (.cells (cs3 kk nn tt) 23)
      unfold cs3 at hbx
      have hAx := hAr.below hbx hAr.lt
      have hb2 := below_in hbr hbx
      by_cases hg : 200 < tt.length
      · go_wp2_with fail
        go_ret
        exact ⟨⟨true, rfl⟩, hb2⟩
      · go_wp2_with fail
        exact ⟨⟨k + 1, by omega, by go_num, hb2, hAx⟩, by simp [intOf]; omega⟩
    · obtain ⟨c0, c1, c2, c3, c4, c5⟩ := hAr.six
      by_cases h30 : 30 < n
      · go_wp2_with fail
        go_ret
        exact ⟨⟨_, rfl⟩, hbr⟩
      · have h30' : decide ((30 : Int) < (n : Int)) = false := by simp; omega
        go_wp2_with fail
        refine (hg _ hbr).mono ?_
        rintro en w2 ⟨⟨x, rfl⟩, b2⟩
        go_wp2_with fail
        go_ret
        exact ⟨⟨_, rfl⟩, below_in hbr b2⟩
def nanV : Vl := ⟨2, 9221120237041090560, []⟩
section
variable {P : Program} {ops : Array Oper} {Q : Exit → Act → World → Prop} {md : Region.Mode} {S : World → Prop}
/-- One of two operations comes up. -/
theorem two_at {i j : Nat} {o p : Oper} {fuel : Nat} {listed : Array Bool} {a : Act} {w : World} (hi : (ops.toList.drop i).head? = some o) (hj : (ops.toList.drop j).head? = some p) (hr : Region.ready md ops listed = [i, j])
    (hw : Region.wanted o (yielded ops a.tmps) = true) (hv : Region.wanted p (yielded ops a.tmps) = true)
    (h : ∀ K' : Act → World → Prop, Shut (∀ a w, S w → (S w → wpAnyH P md ops Q S fuel (listed.setIfInBounds i true) a w) → K' a w) → Oper.wp P o a w K' Q)
    (h' : ∀ K' : Act → World → Prop, Shut (∀ a w, S w → (S w → wpAnyH P md ops Q S fuel (listed.setIfInBounds j true) a w) → K' a w) → Oper.wp P p a w K' Q) : wpAnyH P md ops Q S (fuel + 1) listed a w :=
  wpAnyH_ready hr (by simp) (AllReadyH.cons (op_at hi) (fun K hK => by rw [if_pos hw]; exact h K hK) (AllReadyH.cons (op_at hj) (fun K hK => by rw [if_pos hv]; exact h' K hK) AllReadyH.nil))
end
/-- An operation with two literals that lie in a block. -/
theorem evalTwo (op : Int) (h : op = 3 ∨ op = 4 ∨ op = 5 ∨ op = 6 ∨ op = 9 ∨ op = 10) (x y : Vl) (hx : x.Ok) (hy : y.Ok) {w : World} {g : Nat} {t : TypeId} {cap : Nat}
    (hB : At w g t #[.int .i64 1, .int .i64 0, .int .i64 x.kind, .int .i64 x.num, .string ⟨x.text.toArray⟩, .slice none 0 0, .int .i64 1, .int .i64 0, .int .i64 y.kind, .int .i64 y.num, .string ⟨y.text.toArray⟩, .slice none 0 0]) :
    Calls Try.prog 10 #[.agg #[.int .i64 op, .int .i64 0, .int .i64 0, .int .i64 0, .string ⟨#[]⟩, .slice (some ⟨g, 0, none⟩) 2 cap], .slice none 0 0] w fun en w' => EndVE (pairV op x y) en ∧ Below w.heap.size w w' := by
  have hin : InE w (twoE op (some ⟨g, 0, none⟩) cap (litE x) (litE y)) := inE_two (by unfold I64; omega) (inE_lit hx) (inE_lit hy) hB.lt ⟨hB.cell 0, hB.cell 1, hB.cell 2, hB.cell 3, hB.cell 4, hB.cell 5⟩ ⟨hB.cell 6, hB.cell 7, hB.cell 8, hB.cell 9, hB.cell 10, hB.cell 11⟩
  have ev := Eval_any _ none 0 0 [] w hin ⟨rfl, fun h => absurd h (by omega)⟩ (by unfold maxLen; omega)
  rw [valX_two _ _ _ _ _ _ h] at ev
  exact ev
set_option maxRecDepth 100000 in
set_option maxHeartbeats 6400000 in
theorem alive_any (w : World) : Calls Try.prog 6 #[] w fun en w' => en = .returned (.bool true) ∧ Below w.heap.size w w' := by
  have hb := below_box w (.cells (cs3 2 9221120237041090560 []) 23)
  have hA := At.fresh w 23 (cs3 2 9221120237041090560 [])
  have hl := lit_any nanV
  have hok : nanV.Ok := okV_num (by unfold I64; decide) (by unfold I64; decide)
  have hnan : pairV 4 nanV nanV = some (truthV true) := by kernel_rfl
  unfold cs3 at hb hA
  unfold nanV at hl
  simp only [Vl.val] at hl
  go_enter Try.func6, Try.ntmps6
  go_upto_region 2 with fail
  go_cut [2, 3] (fun p x wx => ∃ g, p = .pointer (some ⟨g, 0, none⟩) ∧ x = .int .i64 0 ∧ At wx g 23 #[.int .i64 1, .int .i64 1, .string ⟨#[]⟩] ∧ Below w.heap.size w wx)
  case first =>
    generalize hw0 : w.alloc (.cells #[.int .i64 2, .int .i64 9221120237041090560, .string ⟨#[]⟩] 23) = w0 at hA hb ⊢
    replace hA : At w0.drew w.heap.size 23 #[.int .i64 2, .int .i64 9221120237041090560, .string ⟨#[]⟩] := hA
    replace hb : Below w.heap.size w w0.drew := hb.drew
    refine wp_region_held_drew (S := fun w' => At w' w.heap.size 23 #[.int .i64 2, .int .i64 9221120237041090560, .string ⟨#[]⟩]) (by kernel_rfl) hA (fun hS => ?_)
    generalize w0.drew = w0 at *
    have hA0 := hA
    have hb0 := hb
    clear hA hb
    refine take_at (i := 0) (v := ?_) rfl rfl (by kernel_rfl) (by kernel_rfl) (by kernel_rfl) (fun _ _ _ h => h) (by rfl) hS ?_ ?_
    rotate_left
    · intro w' hw
      obtain ⟨c0, c1, c2, -, -, -⟩ := At.three hw
      go_simp
      try with_reducible rfl
    try simp only [List.setIfInBounds_toArray, List.set_cons_zero, List.set_cons_succ]
    refine take_at (i := 2) (v := ?_) rfl rfl (by kernel_rfl) (by kernel_rfl) (by kernel_rfl) (fun _ _ _ h => h) (by rfl) hS ?_ ?_
    rotate_left
    · intro w' hw
      obtain ⟨c0, c1, c2, -, -, -⟩ := At.three hw
      go_simp
      try with_reducible rfl
    try simp only [List.setIfInBounds_toArray, List.set_cons_zero, List.set_cons_succ]
    refine two_at (i := 1) (j := 10) rfl rfl (by kernel_rfl) (by rfl) (by rfl) (fun K hK => ?_) (fun K hK => ?_)
    · go_simp
      refine (hl _).mono ?_
      clear hS
      intro e w1 he
      obtain ⟨rfl, b1⟩ := he
      have hb1 := below_in hb0 b1
      have hA1 := hA0.below b1 hA0.lt
      simp only [Ex.val, Ex.op, Ex.col, Ex.v, Ex.A, Ex.n, Ex.cap]
      go_simp
      refine hK.out _ _ (hA1) (fun hS => ?_)
      clear hK K
      try simp only [Act.put, List.setIfInBounds_toArray, List.set_cons_zero, List.set_cons_succ]
      refine two_at (i := 3) (j := 10) rfl rfl (by kernel_rfl) (by rfl) (by rfl) (fun K hK => ?_) (fun K hK => ?_)
      · go_simp
        refine (hl _).mono ?_
        clear hS
        intro e w2 he
        obtain ⟨rfl, b2⟩ := he
        have hb2 := below_in hb1 b2
        have hA2 := hA1.below b2 hA1.lt
        simp only [Ex.val, Ex.op, Ex.col, Ex.v, Ex.A, Ex.n, Ex.cap]
        go_simp
        refine hK.out _ _ (hA2) (fun hS => ?_)
        clear hK K
        try simp only [Act.put, List.setIfInBounds_toArray, List.set_cons_zero, List.set_cons_succ]
        refine two_at (i := 4) (j := 10) rfl rfl (by kernel_rfl) (by rfl) (by rfl) (fun K hK => ?_) (fun K hK => ?_)
        · go_simp
          have hB3 := At.fresh w2 26 #[.int .i64 1, .int .i64 0, .int .i64 2, .int .i64 9221120237041090560, .string ⟨#[]⟩, .slice none 0 0, .int .i64 1, .int .i64 0, .int .i64 2, .int .i64 9221120237041090560, .string ⟨#[]⟩, .slice none 0 0]
          have bx := below_box w2 (.cells #[.int .i64 1, .int .i64 0, .int .i64 2, .int .i64 9221120237041090560, .string ⟨#[]⟩, .slice none 0 0, .int .i64 1, .int .i64 0, .int .i64 2, .int .i64 9221120237041090560, .string ⟨#[]⟩, .slice none 0 0] 26)
          have hb3 := below_in hb2 bx
          have hA3 := hA2.below bx hA2.lt
          refine hK.out _ _ (hA3) (fun hS => ?_)
          clear hK K
          try simp only [Act.put, List.setIfInBounds_toArray, List.set_cons_zero, List.set_cons_succ]
          generalize hg : w2.heap.size = gb at *
          generalize hw : w2.alloc (.cells #[.int .i64 1, .int .i64 0, .int .i64 2, .int .i64 9221120237041090560, .string ⟨#[]⟩, .slice none 0 0, .int .i64 1, .int .i64 0, .int .i64 2, .int .i64 9221120237041090560, .string ⟨#[]⟩, .slice none 0 0] 26) = w3 at *
          clear hw bx hg
          refine take_at (i := 5) (v := ?_) rfl rfl (by kernel_rfl) (by kernel_rfl) (by kernel_rfl) (fun _ _ _ h => h) (by rfl) hS ?_ ?_
          rotate_left
          · intro w' hw
            obtain ⟨c0, c1, c2, -, -, -⟩ := At.three hw
            go_simp
            try with_reducible rfl
          try simp only [List.setIfInBounds_toArray, List.set_cons_zero, List.set_cons_succ]
          refine two_at (i := 6) (j := 10) rfl rfl (by kernel_rfl) (by rfl) (by rfl) (fun K hK => ?_) (fun K hK => ?_)
          · go_simp
            refine (evalTwo 4 (by omega) nanV nanV hok hok hB3).mono ?_
            clear hS
            intro e w4 he
            obtain ⟨he, b4⟩ := he
            have hb4 := below_in hb3 b4
            have hA4 := hA3.below b4 hA3.lt
            rw [hnan] at he
            obtain rfl := he
            simp only [Vl.val, truthV]
            go_simp
            refine hK.out _ _ (hA4) (fun hS => ?_)
            clear hK K
            try simp only [Act.put, List.setIfInBounds_toArray, List.set_cons_zero, List.set_cons_succ]
            refine take_at (i := 7) (v := ?_) rfl rfl (by kernel_rfl) (by kernel_rfl) (by kernel_rfl) (fun _ _ _ h => h) (by rfl) hS ?_ ?_
            rotate_left
            · intro w' hw
              obtain ⟨c0, c1, c2, -, -, -⟩ := At.three hw
              go_simp
              try with_reducible rfl
            try simp only [List.setIfInBounds_toArray, List.set_cons_zero, List.set_cons_succ]
            refine take_at (i := 8) (v := ?_) rfl rfl (by kernel_rfl) (by kernel_rfl) (by kernel_rfl) (fun _ _ _ h => h) (by rfl) hS ?_ ?_
            rotate_left
            · intro w' hw
              obtain ⟨c0, c1, c2, -, -, -⟩ := At.three hw
              go_simp
              try with_reducible rfl
            try simp only [List.setIfInBounds_toArray, List.set_cons_zero, List.set_cons_succ]
            refine take_at (i := 9) (v := ?_) rfl rfl (by kernel_rfl) (by kernel_rfl) (by kernel_rfl) (fun _ _ _ h => h) (by rfl) hS ?_ ?_
            rotate_left
            · intro w' hw
              obtain ⟨c0, c1, c2, -, -, -⟩ := At.three hw
              go_simp
              try with_reducible rfl
            try simp only [List.setIfInBounds_toArray, List.set_cons_zero, List.set_cons_succ]
            refine only_at (i := 10) rfl (by kernel_rfl) (by rfl) (fun K hK => ?_)
            go_simp
            have hG5 := At.fresh w4 23 #[.int .i64 0, .int .i64 0, .string ⟨#[]⟩]
            have bx := below_box w4 (.cells #[.int .i64 0, .int .i64 0, .string ⟨#[]⟩] 23)
            have hb5 := below_in hb4 bx
            have hA5 := hA4.below bx hA4.lt
            refine hK.out _ _ (hA5) (fun hS => ?_)
            clear hK K
            try simp only [Act.put, List.setIfInBounds_toArray, List.set_cons_zero, List.set_cons_succ]
            have hne : ¬ w.heap.size = w4.heap.size := Nat.ne_of_lt hA4.lt
            have hgge : w.heap.size ≤ w4.heap.size := hb4.size
            generalize hg : w4.heap.size = gg at *
            generalize hw : w4.alloc (.cells #[.int .i64 0, .int .i64 0, .string ⟨#[]⟩] 23) = w5 at *
            clear hw bx hg
            obtain ⟨z0, z1, z2, f0, f1, f2⟩ := hG5.three
            refine only_at (i := 11) rfl (by kernel_rfl) (by rfl) (fun K hK => ?_)
            go_simp
            have hG6 := (((hG5.put 0 (.int .i64 1)).put 1 (.int .i64 1)).put 2 (.string ⟨#[]⟩))
            have hA6 := (((hA5.elsewhere (p := ⟨gg, 0, none⟩) hne (.int .i64 1)).elsewhere (p := ⟨gg, 1, none⟩) hne (.int .i64 1)).elsewhere (p := ⟨gg, 2, none⟩) hne (.string ⟨#[]⟩))
            have hb6 := below_set3 hb5 hgge (.int .i64 1) (.int .i64 1) (.string ⟨#[]⟩)
            refine hK.out _ _ (hA6) (fun hS => ?_)
            clear hK K
            try simp only [Act.put, List.setIfInBounds_toArray, List.set_cons_zero, List.set_cons_succ]
            refine take_at (i := 12) (v := ?_) rfl rfl (by kernel_rfl) (by kernel_rfl) (by kernel_rfl) (fun _ _ _ h => h) (by rfl) hS ?_ ?_
            rotate_left
            · intro w' hw
              obtain ⟨c0, c1, c2, -, -, -⟩ := At.three hw
              go_simp
              try with_reducible rfl
            try simp only [List.setIfInBounds_toArray, List.set_cons_zero, List.set_cons_succ]
            refine wpAnyH_done (by kernel_rfl) ?_ _
            clear hS
            go_wp2_with fail
            go_meet
            exact ⟨gg, rfl, rfl, hG6, hb6⟩
          · go_simp
            have hG4 := At.fresh w3 23 #[.int .i64 0, .int .i64 0, .string ⟨#[]⟩]
            have bx := below_box w3 (.cells #[.int .i64 0, .int .i64 0, .string ⟨#[]⟩] 23)
            have hb4 := below_in hb3 bx
            have hA4 := hA3.below bx hA3.lt
            have hB4 := hB3.below bx hB3.lt
            refine hK.out _ _ (hA4) (fun hS => ?_)
            clear hK K
            try simp only [Act.put, List.setIfInBounds_toArray, List.set_cons_zero, List.set_cons_succ]
            have hne : ¬ w.heap.size = w3.heap.size := Nat.ne_of_lt hA3.lt
            have hgge : w.heap.size ≤ w3.heap.size := hb3.size
            generalize hg : w3.heap.size = gg at *
            generalize hw : w3.alloc (.cells #[.int .i64 0, .int .i64 0, .string ⟨#[]⟩] 23) = w4 at *
            clear hw bx hg
            refine only_at (i := 6) rfl (by kernel_rfl) (by rfl) (fun K hK => ?_)
            go_simp
            refine (evalTwo 4 (by omega) nanV nanV hok hok hB4).mono ?_
            clear hS
            intro e w5 he
            obtain ⟨he, b5⟩ := he
            have hb5 := below_in hb4 b5
            have hA5 := hA4.below b5 hA4.lt
            have hG5 := hG4.below b5 hG4.lt
            rw [hnan] at he
            obtain rfl := he
            simp only [Vl.val, truthV]
            go_simp
            refine hK.out _ _ (hA5) (fun hS => ?_)
            clear hK K
            try simp only [Act.put, List.setIfInBounds_toArray, List.set_cons_zero, List.set_cons_succ]
            refine take_at (i := 7) (v := ?_) rfl rfl (by kernel_rfl) (by kernel_rfl) (by kernel_rfl) (fun _ _ _ h => h) (by rfl) hS ?_ ?_
            rotate_left
            · intro w' hw
              obtain ⟨c0, c1, c2, -, -, -⟩ := At.three hw
              go_simp
              try with_reducible rfl
            try simp only [List.setIfInBounds_toArray, List.set_cons_zero, List.set_cons_succ]
            refine take_at (i := 8) (v := ?_) rfl rfl (by kernel_rfl) (by kernel_rfl) (by kernel_rfl) (fun _ _ _ h => h) (by rfl) hS ?_ ?_
            rotate_left
            · intro w' hw
              obtain ⟨c0, c1, c2, -, -, -⟩ := At.three hw
              go_simp
              try with_reducible rfl
            try simp only [List.setIfInBounds_toArray, List.set_cons_zero, List.set_cons_succ]
            refine take_at (i := 9) (v := ?_) rfl rfl (by kernel_rfl) (by kernel_rfl) (by kernel_rfl) (fun _ _ _ h => h) (by rfl) hS ?_ ?_
            rotate_left
            · intro w' hw
              obtain ⟨c0, c1, c2, -, -, -⟩ := At.three hw
              go_simp
              try with_reducible rfl
            try simp only [List.setIfInBounds_toArray, List.set_cons_zero, List.set_cons_succ]
            obtain ⟨z0, z1, z2, f0, f1, f2⟩ := hG5.three
            refine only_at (i := 11) rfl (by kernel_rfl) (by rfl) (fun K hK => ?_)
            go_simp
            have hG6 := (((hG5.put 0 (.int .i64 1)).put 1 (.int .i64 1)).put 2 (.string ⟨#[]⟩))
            have hA6 := (((hA5.elsewhere (p := ⟨gg, 0, none⟩) hne (.int .i64 1)).elsewhere (p := ⟨gg, 1, none⟩) hne (.int .i64 1)).elsewhere (p := ⟨gg, 2, none⟩) hne (.string ⟨#[]⟩))
            have hb6 := below_set3 hb5 hgge (.int .i64 1) (.int .i64 1) (.string ⟨#[]⟩)
            refine hK.out _ _ (hA6) (fun hS => ?_)
            clear hK K
            try simp only [Act.put, List.setIfInBounds_toArray, List.set_cons_zero, List.set_cons_succ]
            refine take_at (i := 12) (v := ?_) rfl rfl (by kernel_rfl) (by kernel_rfl) (by kernel_rfl) (fun _ _ _ h => h) (by rfl) hS ?_ ?_
            rotate_left
            · intro w' hw
              obtain ⟨c0, c1, c2, -, -, -⟩ := At.three hw
              go_simp
              try with_reducible rfl
            try simp only [List.setIfInBounds_toArray, List.set_cons_zero, List.set_cons_succ]
            refine wpAnyH_done (by kernel_rfl) ?_ _
            clear hS
            go_wp2_with fail
            go_meet
            exact ⟨gg, rfl, rfl, hG6, hb6⟩
        · go_simp
          have hG3 := At.fresh w2 23 #[.int .i64 0, .int .i64 0, .string ⟨#[]⟩]
          have bx := below_box w2 (.cells #[.int .i64 0, .int .i64 0, .string ⟨#[]⟩] 23)
          have hb3 := below_in hb2 bx
          have hA3 := hA2.below bx hA2.lt
          refine hK.out _ _ (hA3) (fun hS => ?_)
          clear hK K
          try simp only [Act.put, List.setIfInBounds_toArray, List.set_cons_zero, List.set_cons_succ]
          have hne : ¬ w.heap.size = w2.heap.size := Nat.ne_of_lt hA2.lt
          have hgge : w.heap.size ≤ w2.heap.size := hb2.size
          generalize hg : w2.heap.size = gg at *
          generalize hw : w2.alloc (.cells #[.int .i64 0, .int .i64 0, .string ⟨#[]⟩] 23) = w3 at *
          clear hw bx hg
          refine only_at (i := 4) rfl (by kernel_rfl) (by rfl) (fun K hK => ?_)
          go_simp
          have hB4 := At.fresh w3 26 #[.int .i64 1, .int .i64 0, .int .i64 2, .int .i64 9221120237041090560, .string ⟨#[]⟩, .slice none 0 0, .int .i64 1, .int .i64 0, .int .i64 2, .int .i64 9221120237041090560, .string ⟨#[]⟩, .slice none 0 0]
          have bx := below_box w3 (.cells #[.int .i64 1, .int .i64 0, .int .i64 2, .int .i64 9221120237041090560, .string ⟨#[]⟩, .slice none 0 0, .int .i64 1, .int .i64 0, .int .i64 2, .int .i64 9221120237041090560, .string ⟨#[]⟩, .slice none 0 0] 26)
          have hb4 := below_in hb3 bx
          have hA4 := hA3.below bx hA3.lt
          have hG4 := hG3.below bx hG3.lt
          refine hK.out _ _ (hA4) (fun hS => ?_)
          clear hK K
          try simp only [Act.put, List.setIfInBounds_toArray, List.set_cons_zero, List.set_cons_succ]
          generalize hg : w3.heap.size = gb at *
          generalize hw : w3.alloc (.cells #[.int .i64 1, .int .i64 0, .int .i64 2, .int .i64 9221120237041090560, .string ⟨#[]⟩, .slice none 0 0, .int .i64 1, .int .i64 0, .int .i64 2, .int .i64 9221120237041090560, .string ⟨#[]⟩, .slice none 0 0] 26) = w4 at *
          clear hw bx hg
          refine take_at (i := 5) (v := ?_) rfl rfl (by kernel_rfl) (by kernel_rfl) (by kernel_rfl) (fun _ _ _ h => h) (by rfl) hS ?_ ?_
          rotate_left
          · intro w' hw
            obtain ⟨c0, c1, c2, -, -, -⟩ := At.three hw
            go_simp
            try with_reducible rfl
          try simp only [List.setIfInBounds_toArray, List.set_cons_zero, List.set_cons_succ]
          refine only_at (i := 6) rfl (by kernel_rfl) (by rfl) (fun K hK => ?_)
          go_simp
          refine (evalTwo 4 (by omega) nanV nanV hok hok hB4).mono ?_
          clear hS
          intro e w5 he
          obtain ⟨he, b5⟩ := he
          have hb5 := below_in hb4 b5
          have hA5 := hA4.below b5 hA4.lt
          have hG5 := hG4.below b5 hG4.lt
          rw [hnan] at he
          obtain rfl := he
          simp only [Vl.val, truthV]
          go_simp
          refine hK.out _ _ (hA5) (fun hS => ?_)
          clear hK K
          try simp only [Act.put, List.setIfInBounds_toArray, List.set_cons_zero, List.set_cons_succ]
          refine take_at (i := 7) (v := ?_) rfl rfl (by kernel_rfl) (by kernel_rfl) (by kernel_rfl) (fun _ _ _ h => h) (by rfl) hS ?_ ?_
          rotate_left
          · intro w' hw
            obtain ⟨c0, c1, c2, -, -, -⟩ := At.three hw
            go_simp
            try with_reducible rfl
          try simp only [List.setIfInBounds_toArray, List.set_cons_zero, List.set_cons_succ]
          refine take_at (i := 8) (v := ?_) rfl rfl (by kernel_rfl) (by kernel_rfl) (by kernel_rfl) (fun _ _ _ h => h) (by rfl) hS ?_ ?_
          rotate_left
          · intro w' hw
            obtain ⟨c0, c1, c2, -, -, -⟩ := At.three hw
            go_simp
            try with_reducible rfl
          try simp only [List.setIfInBounds_toArray, List.set_cons_zero, List.set_cons_succ]
          refine take_at (i := 9) (v := ?_) rfl rfl (by kernel_rfl) (by kernel_rfl) (by kernel_rfl) (fun _ _ _ h => h) (by rfl) hS ?_ ?_
          rotate_left
          · intro w' hw
            obtain ⟨c0, c1, c2, -, -, -⟩ := At.three hw
            go_simp
            try with_reducible rfl
          try simp only [List.setIfInBounds_toArray, List.set_cons_zero, List.set_cons_succ]
          obtain ⟨z0, z1, z2, f0, f1, f2⟩ := hG5.three
          refine only_at (i := 11) rfl (by kernel_rfl) (by rfl) (fun K hK => ?_)
          go_simp
          have hG6 := (((hG5.put 0 (.int .i64 1)).put 1 (.int .i64 1)).put 2 (.string ⟨#[]⟩))
          have hA6 := (((hA5.elsewhere (p := ⟨gg, 0, none⟩) hne (.int .i64 1)).elsewhere (p := ⟨gg, 1, none⟩) hne (.int .i64 1)).elsewhere (p := ⟨gg, 2, none⟩) hne (.string ⟨#[]⟩))
          have hb6 := below_set3 hb5 hgge (.int .i64 1) (.int .i64 1) (.string ⟨#[]⟩)
          refine hK.out _ _ (hA6) (fun hS => ?_)
          clear hK K
          try simp only [Act.put, List.setIfInBounds_toArray, List.set_cons_zero, List.set_cons_succ]
          refine take_at (i := 12) (v := ?_) rfl rfl (by kernel_rfl) (by kernel_rfl) (by kernel_rfl) (fun _ _ _ h => h) (by rfl) hS ?_ ?_
          rotate_left
          · intro w' hw
            obtain ⟨c0, c1, c2, -, -, -⟩ := At.three hw
            go_simp
            try with_reducible rfl
          try simp only [List.setIfInBounds_toArray, List.set_cons_zero, List.set_cons_succ]
          refine wpAnyH_done (by kernel_rfl) ?_ _
          clear hS
          go_wp2_with fail
          go_meet
          exact ⟨gg, rfl, rfl, hG6, hb6⟩
      · go_simp
        have hG2 := At.fresh w1 23 #[.int .i64 0, .int .i64 0, .string ⟨#[]⟩]
        have bx := below_box w1 (.cells #[.int .i64 0, .int .i64 0, .string ⟨#[]⟩] 23)
        have hb2 := below_in hb1 bx
        have hA2 := hA1.below bx hA1.lt
        refine hK.out _ _ (hA2) (fun hS => ?_)
        clear hK K
        try simp only [Act.put, List.setIfInBounds_toArray, List.set_cons_zero, List.set_cons_succ]
        have hne : ¬ w.heap.size = w1.heap.size := Nat.ne_of_lt hA1.lt
        have hgge : w.heap.size ≤ w1.heap.size := hb1.size
        generalize hg : w1.heap.size = gg at *
        generalize hw : w1.alloc (.cells #[.int .i64 0, .int .i64 0, .string ⟨#[]⟩] 23) = w2 at *
        clear hw bx hg
        refine only_at (i := 3) rfl (by kernel_rfl) (by rfl) (fun K hK => ?_)
        go_simp
        refine (hl _).mono ?_
        clear hS
        intro e w3 he
        obtain ⟨rfl, b3⟩ := he
        have hb3 := below_in hb2 b3
        have hA3 := hA2.below b3 hA2.lt
        have hG3 := hG2.below b3 hG2.lt
        simp only [Ex.val, Ex.op, Ex.col, Ex.v, Ex.A, Ex.n, Ex.cap]
        go_simp
        refine hK.out _ _ (hA3) (fun hS => ?_)
        clear hK K
        try simp only [Act.put, List.setIfInBounds_toArray, List.set_cons_zero, List.set_cons_succ]
        refine only_at (i := 4) rfl (by kernel_rfl) (by rfl) (fun K hK => ?_)
        go_simp
        have hB4 := At.fresh w3 26 #[.int .i64 1, .int .i64 0, .int .i64 2, .int .i64 9221120237041090560, .string ⟨#[]⟩, .slice none 0 0, .int .i64 1, .int .i64 0, .int .i64 2, .int .i64 9221120237041090560, .string ⟨#[]⟩, .slice none 0 0]
        have bx := below_box w3 (.cells #[.int .i64 1, .int .i64 0, .int .i64 2, .int .i64 9221120237041090560, .string ⟨#[]⟩, .slice none 0 0, .int .i64 1, .int .i64 0, .int .i64 2, .int .i64 9221120237041090560, .string ⟨#[]⟩, .slice none 0 0] 26)
        have hb4 := below_in hb3 bx
        have hA4 := hA3.below bx hA3.lt
        have hG4 := hG3.below bx hG3.lt
        refine hK.out _ _ (hA4) (fun hS => ?_)
        clear hK K
        try simp only [Act.put, List.setIfInBounds_toArray, List.set_cons_zero, List.set_cons_succ]
        generalize hg : w3.heap.size = gb at *
        generalize hw : w3.alloc (.cells #[.int .i64 1, .int .i64 0, .int .i64 2, .int .i64 9221120237041090560, .string ⟨#[]⟩, .slice none 0 0, .int .i64 1, .int .i64 0, .int .i64 2, .int .i64 9221120237041090560, .string ⟨#[]⟩, .slice none 0 0] 26) = w4 at *
        clear hw bx hg
        refine take_at (i := 5) (v := ?_) rfl rfl (by kernel_rfl) (by kernel_rfl) (by kernel_rfl) (fun _ _ _ h => h) (by rfl) hS ?_ ?_
        rotate_left
        · intro w' hw
          obtain ⟨c0, c1, c2, -, -, -⟩ := At.three hw
          go_simp
          try with_reducible rfl
        try simp only [List.setIfInBounds_toArray, List.set_cons_zero, List.set_cons_succ]
        refine only_at (i := 6) rfl (by kernel_rfl) (by rfl) (fun K hK => ?_)
        go_simp
        refine (evalTwo 4 (by omega) nanV nanV hok hok hB4).mono ?_
        clear hS
        intro e w5 he
        obtain ⟨he, b5⟩ := he
        have hb5 := below_in hb4 b5
        have hA5 := hA4.below b5 hA4.lt
        have hG5 := hG4.below b5 hG4.lt
        rw [hnan] at he
        obtain rfl := he
        simp only [Vl.val, truthV]
        go_simp
        refine hK.out _ _ (hA5) (fun hS => ?_)
        clear hK K
        try simp only [Act.put, List.setIfInBounds_toArray, List.set_cons_zero, List.set_cons_succ]
        refine take_at (i := 7) (v := ?_) rfl rfl (by kernel_rfl) (by kernel_rfl) (by kernel_rfl) (fun _ _ _ h => h) (by rfl) hS ?_ ?_
        rotate_left
        · intro w' hw
          obtain ⟨c0, c1, c2, -, -, -⟩ := At.three hw
          go_simp
          try with_reducible rfl
        try simp only [List.setIfInBounds_toArray, List.set_cons_zero, List.set_cons_succ]
        refine take_at (i := 8) (v := ?_) rfl rfl (by kernel_rfl) (by kernel_rfl) (by kernel_rfl) (fun _ _ _ h => h) (by rfl) hS ?_ ?_
        rotate_left
        · intro w' hw
          obtain ⟨c0, c1, c2, -, -, -⟩ := At.three hw
          go_simp
          try with_reducible rfl
        try simp only [List.setIfInBounds_toArray, List.set_cons_zero, List.set_cons_succ]
        refine take_at (i := 9) (v := ?_) rfl rfl (by kernel_rfl) (by kernel_rfl) (by kernel_rfl) (fun _ _ _ h => h) (by rfl) hS ?_ ?_
        rotate_left
        · intro w' hw
          obtain ⟨c0, c1, c2, -, -, -⟩ := At.three hw
          go_simp
          try with_reducible rfl
        try simp only [List.setIfInBounds_toArray, List.set_cons_zero, List.set_cons_succ]
        obtain ⟨z0, z1, z2, f0, f1, f2⟩ := hG5.three
        refine only_at (i := 11) rfl (by kernel_rfl) (by rfl) (fun K hK => ?_)
        go_simp
        have hG6 := (((hG5.put 0 (.int .i64 1)).put 1 (.int .i64 1)).put 2 (.string ⟨#[]⟩))
        have hA6 := (((hA5.elsewhere (p := ⟨gg, 0, none⟩) hne (.int .i64 1)).elsewhere (p := ⟨gg, 1, none⟩) hne (.int .i64 1)).elsewhere (p := ⟨gg, 2, none⟩) hne (.string ⟨#[]⟩))
        have hb6 := below_set3 hb5 hgge (.int .i64 1) (.int .i64 1) (.string ⟨#[]⟩)
        refine hK.out _ _ (hA6) (fun hS => ?_)
        clear hK K
        try simp only [Act.put, List.setIfInBounds_toArray, List.set_cons_zero, List.set_cons_succ]
        refine take_at (i := 12) (v := ?_) rfl rfl (by kernel_rfl) (by kernel_rfl) (by kernel_rfl) (fun _ _ _ h => h) (by rfl) hS ?_ ?_
        rotate_left
        · intro w' hw
          obtain ⟨c0, c1, c2, -, -, -⟩ := At.three hw
          go_simp
          try with_reducible rfl
        try simp only [List.setIfInBounds_toArray, List.set_cons_zero, List.set_cons_succ]
        refine wpAnyH_done (by kernel_rfl) ?_ _
        clear hS
        go_wp2_with fail
        go_meet
        exact ⟨gg, rfl, rfl, hG6, hb6⟩
    · go_simp
      have hG1 := At.fresh w0 23 #[.int .i64 0, .int .i64 0, .string ⟨#[]⟩]
      have bx := below_box w0 (.cells #[.int .i64 0, .int .i64 0, .string ⟨#[]⟩] 23)
      have hb1 := below_in hb0 bx
      have hA1 := hA0.below bx hA0.lt
      refine hK.out _ _ (hA1) (fun hS => ?_)
      clear hK K
      try simp only [Act.put, List.setIfInBounds_toArray, List.set_cons_zero, List.set_cons_succ]
      have hne : ¬ w.heap.size = w0.heap.size := Nat.ne_of_lt hA0.lt
      have hgge : w.heap.size ≤ w0.heap.size := hb0.size
      generalize hg : w0.heap.size = gg at *
      generalize hw : w0.alloc (.cells #[.int .i64 0, .int .i64 0, .string ⟨#[]⟩] 23) = w1 at *
      clear hw bx hg
      refine only_at (i := 1) rfl (by kernel_rfl) (by rfl) (fun K hK => ?_)
      go_simp
      refine (hl _).mono ?_
      clear hS
      intro e w2 he
      obtain ⟨rfl, b2⟩ := he
      have hb2 := below_in hb1 b2
      have hA2 := hA1.below b2 hA1.lt
      have hG2 := hG1.below b2 hG1.lt
      simp only [Ex.val, Ex.op, Ex.col, Ex.v, Ex.A, Ex.n, Ex.cap]
      go_simp
      refine hK.out _ _ (hA2) (fun hS => ?_)
      clear hK K
      try simp only [Act.put, List.setIfInBounds_toArray, List.set_cons_zero, List.set_cons_succ]
      refine only_at (i := 3) rfl (by kernel_rfl) (by rfl) (fun K hK => ?_)
      go_simp
      refine (hl _).mono ?_
      clear hS
      intro e w3 he
      obtain ⟨rfl, b3⟩ := he
      have hb3 := below_in hb2 b3
      have hA3 := hA2.below b3 hA2.lt
      have hG3 := hG2.below b3 hG2.lt
      simp only [Ex.val, Ex.op, Ex.col, Ex.v, Ex.A, Ex.n, Ex.cap]
      go_simp
      refine hK.out _ _ (hA3) (fun hS => ?_)
      clear hK K
      try simp only [Act.put, List.setIfInBounds_toArray, List.set_cons_zero, List.set_cons_succ]
      refine only_at (i := 4) rfl (by kernel_rfl) (by rfl) (fun K hK => ?_)
      go_simp
      have hB4 := At.fresh w3 26 #[.int .i64 1, .int .i64 0, .int .i64 2, .int .i64 9221120237041090560, .string ⟨#[]⟩, .slice none 0 0, .int .i64 1, .int .i64 0, .int .i64 2, .int .i64 9221120237041090560, .string ⟨#[]⟩, .slice none 0 0]
      have bx := below_box w3 (.cells #[.int .i64 1, .int .i64 0, .int .i64 2, .int .i64 9221120237041090560, .string ⟨#[]⟩, .slice none 0 0, .int .i64 1, .int .i64 0, .int .i64 2, .int .i64 9221120237041090560, .string ⟨#[]⟩, .slice none 0 0] 26)
      have hb4 := below_in hb3 bx
      have hA4 := hA3.below bx hA3.lt
      have hG4 := hG3.below bx hG3.lt
      refine hK.out _ _ (hA4) (fun hS => ?_)
      clear hK K
      try simp only [Act.put, List.setIfInBounds_toArray, List.set_cons_zero, List.set_cons_succ]
      generalize hg : w3.heap.size = gb at *
      generalize hw : w3.alloc (.cells #[.int .i64 1, .int .i64 0, .int .i64 2, .int .i64 9221120237041090560, .string ⟨#[]⟩, .slice none 0 0, .int .i64 1, .int .i64 0, .int .i64 2, .int .i64 9221120237041090560, .string ⟨#[]⟩, .slice none 0 0] 26) = w4 at *
      clear hw bx hg
      refine take_at (i := 5) (v := ?_) rfl rfl (by kernel_rfl) (by kernel_rfl) (by kernel_rfl) (fun _ _ _ h => h) (by rfl) hS ?_ ?_
      rotate_left
      · intro w' hw
        obtain ⟨c0, c1, c2, -, -, -⟩ := At.three hw
        go_simp
        try with_reducible rfl
      try simp only [List.setIfInBounds_toArray, List.set_cons_zero, List.set_cons_succ]
      refine only_at (i := 6) rfl (by kernel_rfl) (by rfl) (fun K hK => ?_)
      go_simp
      refine (evalTwo 4 (by omega) nanV nanV hok hok hB4).mono ?_
      clear hS
      intro e w5 he
      obtain ⟨he, b5⟩ := he
      have hb5 := below_in hb4 b5
      have hA5 := hA4.below b5 hA4.lt
      have hG5 := hG4.below b5 hG4.lt
      rw [hnan] at he
      obtain rfl := he
      simp only [Vl.val, truthV]
      go_simp
      refine hK.out _ _ (hA5) (fun hS => ?_)
      clear hK K
      try simp only [Act.put, List.setIfInBounds_toArray, List.set_cons_zero, List.set_cons_succ]
      refine take_at (i := 7) (v := ?_) rfl rfl (by kernel_rfl) (by kernel_rfl) (by kernel_rfl) (fun _ _ _ h => h) (by rfl) hS ?_ ?_
      rotate_left
      · intro w' hw
        obtain ⟨c0, c1, c2, -, -, -⟩ := At.three hw
        go_simp
        try with_reducible rfl
      try simp only [List.setIfInBounds_toArray, List.set_cons_zero, List.set_cons_succ]
      refine take_at (i := 8) (v := ?_) rfl rfl (by kernel_rfl) (by kernel_rfl) (by kernel_rfl) (fun _ _ _ h => h) (by rfl) hS ?_ ?_
      rotate_left
      · intro w' hw
        obtain ⟨c0, c1, c2, -, -, -⟩ := At.three hw
        go_simp
        try with_reducible rfl
      try simp only [List.setIfInBounds_toArray, List.set_cons_zero, List.set_cons_succ]
      refine take_at (i := 9) (v := ?_) rfl rfl (by kernel_rfl) (by kernel_rfl) (by kernel_rfl) (fun _ _ _ h => h) (by rfl) hS ?_ ?_
      rotate_left
      · intro w' hw
        obtain ⟨c0, c1, c2, -, -, -⟩ := At.three hw
        go_simp
        try with_reducible rfl
      try simp only [List.setIfInBounds_toArray, List.set_cons_zero, List.set_cons_succ]
      obtain ⟨z0, z1, z2, f0, f1, f2⟩ := hG5.three
      refine only_at (i := 11) rfl (by kernel_rfl) (by rfl) (fun K hK => ?_)
      go_simp
      have hG6 := (((hG5.put 0 (.int .i64 1)).put 1 (.int .i64 1)).put 2 (.string ⟨#[]⟩))
      have hA6 := (((hA5.elsewhere (p := ⟨gg, 0, none⟩) hne (.int .i64 1)).elsewhere (p := ⟨gg, 1, none⟩) hne (.int .i64 1)).elsewhere (p := ⟨gg, 2, none⟩) hne (.string ⟨#[]⟩))
      have hb6 := below_set3 hb5 hgge (.int .i64 1) (.int .i64 1) (.string ⟨#[]⟩)
      refine hK.out _ _ (hA6) (fun hS => ?_)
      clear hK K
      try simp only [Act.put, List.setIfInBounds_toArray, List.set_cons_zero, List.set_cons_succ]
      refine take_at (i := 12) (v := ?_) rfl rfl (by kernel_rfl) (by kernel_rfl) (by kernel_rfl) (fun _ _ _ h => h) (by rfl) hS ?_ ?_
      rotate_left
      · intro w' hw
        obtain ⟨c0, c1, c2, -, -, -⟩ := At.three hw
        go_simp
        try with_reducible rfl
      try simp only [List.setIfInBounds_toArray, List.set_cons_zero, List.set_cons_succ]
      refine wpAnyH_done (by kernel_rfl) ?_ _
      clear hS
      go_wp2_with fail
      go_meet
      exact ⟨gg, rfl, rfl, hG6, hb6⟩
  case rest =>
    obtain ⟨g, rfl, rfl, hG, hbc⟩ := hcut
    have hl0 := lit_any nullV
    have hl1 := lit_any ⟨1, 0, []⟩
    have hok0 := okV_null
    have hok1 : (Vl.mk 1 0 []).Ok := okV_num (by unfold I64; decide) (by unfold I64; decide)
    have hno : pairV 5 nullV ⟨1, 0, []⟩ = some (truthV false) := by kernel_rfl
    unfold nullV at hl0
    simp only [Vl.val] at hl0 hl1
    go_wp2_with fail
    refine (hl0 _).mono ?_
    intro e w1 he
    obtain ⟨rfl, b1⟩ := he
    have hb1 := below_in hbc b1
    have hG1 := hG.below b1 hG.lt
    simp only [Ex.val, Ex.op, Ex.col, Ex.v, Ex.A, Ex.n, Ex.cap]
    go_wp2_with fail
    refine (hl1 _).mono ?_
    intro e w2 he
    obtain ⟨rfl, b2⟩ := he
    have hb2 := below_in hb1 b2
    have hG2 := hG1.below b2 hG1.lt
    simp only [Ex.val, Ex.op, Ex.col, Ex.v, Ex.A, Ex.n, Ex.cap]
    go_wp2_with fail
    have hB := At.fresh w2 26 #[.int .i64 1, .int .i64 0, .int .i64 0, .int .i64 0, .string ⟨#[]⟩, .slice none 0 0, .int .i64 1, .int .i64 0, .int .i64 1, .int .i64 0, .string ⟨#[]⟩, .slice none 0 0]
    have bx := below_box w2 (.cells #[.int .i64 1, .int .i64 0, .int .i64 0, .int .i64 0, .string ⟨#[]⟩, .slice none 0 0, .int .i64 1, .int .i64 0, .int .i64 1, .int .i64 0, .string ⟨#[]⟩, .slice none 0 0] 26)
    have hG3 := hG2.below bx hG2.lt
    refine (evalTwo 5 (by omega) nullV ⟨1, 0, []⟩ hok0 hok1 hB).mono ?_
    intro e w4 he
    obtain ⟨he, b4⟩ := he
    have hb4 := below_in hb2 (below_in bx b4)
    obtain ⟨z0, z1, z2, f0, f1, f2⟩ := (hG3.below b4 hG3.lt).three
    have hlt4 := (hG3.below b4 hG3.lt).lt
    have hne4 : ¬ g = w4.heap.size := by omega
    rw [hno] at he
    obtain rfl := he
    simp only [Vl.val, truthV]
    go_wp2_with fail
    go_ret
    exact ⟨rfl, hb4.alloc hb4.size _⟩
end Go.Proofs.Ytfgmhilmjkpeeaa
