/- The walk of the law ExprLogic. -/
import Derived.Test.YtfgmhilmjkpeeaaExL
import Derived.Deep.DeepCutAuto
namespace Go.Proofs.Ytfgmhilmjkpeeaa
open Go.RowKit

section
variable {P : Program} {ops : Array Oper} {Q : Exit → Act → World → Prop} {md : Region.Mode} {S : World → Prop}
/-- One of three operations comes up. -/
theorem three_at {i j k : Nat} {o p q : Oper} {fuel : Nat} {listed : Array Bool} {a : Act} {w : World} (hi : (ops.toList.drop i).head? = some o) (hj : (ops.toList.drop j).head? = some p) (hk : (ops.toList.drop k).head? = some q)
    (hr : Region.ready md ops listed = [i, j, k])
    (hw : Region.wanted o (yielded ops a.tmps) = true) (hv : Region.wanted p (yielded ops a.tmps) = true) (hu : Region.wanted q (yielded ops a.tmps) = true)
    (h : ∀ K' : Act → World → Prop, Shut (∀ a w, S w → (S w → wpAnyH P md ops Q S fuel (listed.setIfInBounds i true) a w) → K' a w) → Oper.wp P o a w K' Q)
    (h' : ∀ K' : Act → World → Prop, Shut (∀ a w, S w → (S w → wpAnyH P md ops Q S fuel (listed.setIfInBounds j true) a w) → K' a w) → Oper.wp P p a w K' Q)
    (h'' : ∀ K' : Act → World → Prop, Shut (∀ a w, S w → (S w → wpAnyH P md ops Q S fuel (listed.setIfInBounds k true) a w) → K' a w) → Oper.wp P q a w K' Q) : wpAnyH P md ops Q S (fuel + 1) listed a w :=
  wpAnyH_ready hr (by simp) (AllReadyH.cons (op_at hi) (fun K hK => by rw [if_pos hw]; exact h K hK) (AllReadyH.cons (op_at hj) (fun K hK => by rw [if_pos hv]; exact h' K hK) (AllReadyH.cons (op_at hk) (fun K hK => by rw [if_pos hu]; exact h'' K hK) AllReadyH.nil)))
end
theorem At.sixf {w : World} {g : Nat} {t : TypeId} {x y z p q r : Value} (h : At w g t #[x, y, z, p, q, r]) : w.frozen? ⟨g, 0, none⟩ = false ∧ w.frozen? ⟨g, 1, none⟩ = false ∧ w.frozen? ⟨g, 2, none⟩ = false ∧
    w.frozen? ⟨g, 3, none⟩ = false ∧ w.frozen? ⟨g, 4, none⟩ = false ∧ w.frozen? ⟨g, 5, none⟩ = false := ⟨h.unfrozen 0, h.unfrozen 1, h.unfrozen 2, h.unfrozen 3, h.unfrozen 4, h.unfrozen 5⟩
theorem At.put6 {w : World} {g : Nat} {t : TypeId} {x y z p q r : Value} (h : At w g t #[x, y, z, p, q, r]) (x' y' z' p' q' r' : Value) :
    At ((((((w.setCell ⟨g, 0, none⟩ x').setCell ⟨g, 1, none⟩ y').setCell ⟨g, 2, none⟩ z').setCell ⟨g, 3, none⟩ p').setCell ⟨g, 4, none⟩ q').setCell ⟨g, 5, none⟩ r') g t #[x', y', z', p', q', r'] :=
  (((((h.put 0 x').put 1 y').put 2 z').put 3 p').put 4 q').put 5 r'
theorem At.away6 {w : World} {g b : Nat} {t : TypeId} {cs : Array Value} (h : At w b t cs) (hne : ¬ b = g) (x' y' z' p' q' r' : Value) :
    At ((((((w.setCell ⟨g, 0, none⟩ x').setCell ⟨g, 1, none⟩ y').setCell ⟨g, 2, none⟩ z').setCell ⟨g, 3, none⟩ p').setCell ⟨g, 4, none⟩ q').setCell ⟨g, 5, none⟩ r') b t cs :=
  (((((h.elsewhere (p := ⟨g, 0, none⟩) hne x').elsewhere (p := ⟨g, 1, none⟩) hne y').elsewhere (p := ⟨g, 2, none⟩) hne z').elsewhere (p := ⟨g, 3, none⟩) hne p').elsewhere (p := ⟨g, 4, none⟩) hne q').elsewhere (p := ⟨g, 5, none⟩) hne r'
theorem below_put6 {w w1 : World} {g : Nat} (h : Below w.heap.size w w1) (hg : w.heap.size ≤ g) (x' y' z' p' q' r' : Value) :
    Below w.heap.size w ((((((w1.setCell ⟨g, 0, none⟩ x').setCell ⟨g, 1, none⟩ y').setCell ⟨g, 2, none⟩ z').setCell ⟨g, 3, none⟩ p').setCell ⟨g, 4, none⟩ q').setCell ⟨g, 5, none⟩ r') :=
  (((((h.setCell (p := ⟨g, 0, none⟩) hg x').setCell (p := ⟨g, 1, none⟩) hg y').setCell (p := ⟨g, 2, none⟩) hg z').setCell (p := ⟨g, 3, none⟩) hg p').setCell (p := ⟨g, 4, none⟩) hg q').setCell (p := ⟨g, 5, none⟩) hg r'

theorem logic_facts (a b : Vl) (ha : 0 ≤ a.kind ∧ a.kind ≤ 1) (hb : 0 ≤ b.kind ∧ b.kind ≤ 1) : ∃ r0 r1 p0 p1, pairV 5 a b = some ⟨r0, r1, []⟩ ∧ pairV 5 b a = some ⟨r0, r1, []⟩ ∧ notV ⟨r0, r1, []⟩ = some ⟨p0, p1, []⟩ ∧
    ((notV a).bind fun x => (notV b).bind fun y => pairV 6 x y) = some ⟨p0, p1, []⟩ := by
  obtain ⟨k, n, t⟩ := a
  obtain ⟨j, m, u⟩ := b
  simp only at ha hb
  have hk : k = 0 ∨ k = 1 := by omega
  have hj : j = 0 ∨ j = 1 := by omega
  rcases hk with rfl | rfl <;> rcases hj with rfl | rfl <;> by_cases hn : n = 0 <;> by_cases hm : m = 0 <;>
    simp [pairV, decideV, notV, okTruth, isV, truthV, nullV, hn, hm]
  all_goals exact ⟨_, _, ⟨rfl, rfl⟩, .inr rfl, rfl⟩
/-- Not of an operation with two literals. -/
theorem evalNotTwo (op : Int) (h : op = 3 ∨ op = 4 ∨ op = 5 ∨ op = 6 ∨ op = 9 ∨ op = 10) (x y : Vl) (hx : x.Ok) (hy : y.Ok) {w : World} {g b : Nat} {t t' : TypeId} {c d : Nat}
    (hG : At w g t #[.int .i64 op, .int .i64 0, .int .i64 0, .int .i64 0, .string ⟨#[]⟩, .slice (some ⟨b, 0, none⟩) 2 d])
    (hB : At w b t' #[.int .i64 1, .int .i64 0, .int .i64 x.kind, .int .i64 x.num, .string ⟨x.text.toArray⟩, .slice none 0 0, .int .i64 1, .int .i64 0, .int .i64 y.kind, .int .i64 y.num, .string ⟨y.text.toArray⟩, .slice none 0 0]) :
    Calls Try.prog 10 #[.agg #[.int .i64 7, .int .i64 0, .int .i64 0, .int .i64 0, .string ⟨#[]⟩, .slice (some ⟨g, 0, none⟩) 1 c], .slice none 0 0] w fun en w' => EndVE ((pairV op x y).bind notV) en ∧ Below w.heap.size w w' := by
  have hin : InE w (twoE op (some ⟨b, 0, none⟩) d (litE x) (litE y)) := inE_two (by unfold I64; omega) (inE_lit hx) (inE_lit hy) hB.lt ⟨hB.cell 0, hB.cell 1, hB.cell 2, hB.cell 3, hB.cell 4, hB.cell 5⟩ ⟨hB.cell 6, hB.cell 7, hB.cell 8, hB.cell 9, hB.cell 10, hB.cell 11⟩
  have hin2 : InE w (oneE 7 (some ⟨g, 0, none⟩) c (twoE op (some ⟨b, 0, none⟩) d (litE x) (litE y))) := inE_one (by unfold I64; omega) hin hG.lt ⟨hG.cell 0, hG.cell 1, hG.cell 2, hG.cell 3, hG.cell 4, hG.cell 5⟩
  have ev := Eval_any _ none 0 0 [] w hin2 ⟨rfl, fun h => absurd h (by omega)⟩ (by unfold maxLen; omega)
  rw [valX_notTwo _ _ _ _ _ _ _ _ h] at ev
  exact ev
/-- An operation with the Nots of two literals. -/
theorem evalTwoNot (op : Int) (h : op = 3 ∨ op = 4 ∨ op = 5 ∨ op = 6 ∨ op = 9 ∨ op = 10) (x y : Vl) (hx : x.Ok) (hy : y.Ok) {w : World} {g b b' : Nat} {t t' t'' : TypeId} {c d d' : Nat}
    (hG : At w g t #[.int .i64 7, .int .i64 0, .int .i64 0, .int .i64 0, .string ⟨#[]⟩, .slice (some ⟨b, 0, none⟩) 1 d, .int .i64 7, .int .i64 0, .int .i64 0, .int .i64 0, .string ⟨#[]⟩, .slice (some ⟨b', 0, none⟩) 1 d'])
    (hB : At w b t' #[.int .i64 1, .int .i64 0, .int .i64 x.kind, .int .i64 x.num, .string ⟨x.text.toArray⟩, .slice none 0 0]) (hB' : At w b' t'' #[.int .i64 1, .int .i64 0, .int .i64 y.kind, .int .i64 y.num, .string ⟨y.text.toArray⟩, .slice none 0 0]) :
    Calls Try.prog 10 #[.agg #[.int .i64 op, .int .i64 0, .int .i64 0, .int .i64 0, .string ⟨#[]⟩, .slice (some ⟨g, 0, none⟩) 2 c], .slice none 0 0] w fun en w' =>
      EndVE ((notV x).bind fun p => (notV y).bind fun q => pairV op p q) en ∧ Below w.heap.size w w' := by
  have i1 : InE w (oneE 7 (some ⟨b, 0, none⟩) d (litE x)) := inE_one (by unfold I64; omega) (inE_lit hx) hB.lt ⟨hB.cell 0, hB.cell 1, hB.cell 2, hB.cell 3, hB.cell 4, hB.cell 5⟩
  have i2 : InE w (oneE 7 (some ⟨b', 0, none⟩) d' (litE y)) := inE_one (by unfold I64; omega) (inE_lit hy) hB'.lt ⟨hB'.cell 0, hB'.cell 1, hB'.cell 2, hB'.cell 3, hB'.cell 4, hB'.cell 5⟩
  have hin2 : InE w (twoE op (some ⟨g, 0, none⟩) c (oneE 7 (some ⟨b, 0, none⟩) d (litE x)) (oneE 7 (some ⟨b', 0, none⟩) d' (litE y))) :=
    inE_two (by unfold I64; omega) i1 i2 hG.lt ⟨hG.cell 0, hG.cell 1, hG.cell 2, hG.cell 3, hG.cell 4, hG.cell 5⟩ ⟨hG.cell 6, hG.cell 7, hG.cell 8, hG.cell 9, hG.cell 10, hG.cell 11⟩
  have ev := Eval_any _ none 0 0 [] w hin2 ⟨rfl, fun h => absurd h (by omega)⟩ (by unfold maxLen; omega)
  rw [valX_twoNot _ _ _ _ _ _ _ _ _ _ h] at ev
  exact ev

set_option maxRecDepth 100000 in
set_option maxHeartbeats 6400000 in
theorem exprLogic_main (a b : Vl) (w : World) (ha : a.Ok) (hb : b.Ok) : Calls Try.prog 4 #[a.val, b.val] w fun en w' => en = .returned (.bool true) ∧ Below w.heap.size w w' := by
  obtain ⟨k, n, t⟩ := a
  obtain ⟨j, m, u⟩ := b
  show Calls _ _ #[.agg #[.int .i64 k, .int .i64 n, .string ⟨t.toArray⟩], .agg #[.int .i64 j, .int .i64 m, .string ⟨u.toArray⟩]] w _
  obtain ⟨z, hz⟩ : ∃ z, wrap64 (↑t.length + ↑u.length) = z := ⟨_, rfl⟩
  have hA0 := At.fresh w 23 (cs3 k n t)
  have bx := below_box w (.cells (cs3 k n t) 23)
  have by0 := below_box (w.alloc (.cells (cs3 k n t) 23)) (.cells (cs3 j m u) 23)
  have hB0 := At.fresh (w.alloc (.cells (cs3 k n t) 23)) 23 (cs3 j m u)
  have hsz : (w.alloc (.cells (cs3 k n t) 23)).heap.size = w.heap.size + 1 := by simp
  have hA0 := hA0.below by0 hA0.lt
  have hb0 := below_in bx by0
  rw [hsz] at hB0
  clear bx by0 hsz
  unfold cs3 at hA0 hB0 hb0
  go_enter Try.func4, Try.ntmps4
  go_wp2_with fail
  refine (alive_any _).mono ?_
  intro en w1 he
  obtain ⟨rfl, b1⟩ := he
  have hb1 := below_in hb0 b1
  have hA1 := hA0.below b1 hA0.lt
  have hB1 := hB0.below b1 hB0.lt
  clear hb0 b1 hA0 hB0
  obtain ⟨c0, c1, c2, -, -, -⟩ := hA1.three
  obtain ⟨d0, d1, d2, -, -, -⟩ := hB1.three
  by_cases hk0 : k < 0
  · go_wp2_with fail
    go_ret
    exact ⟨rfl, hb1⟩
  have hk0' : decide (k < 0) = false := by simpa using hk0
  by_cases hk1 : 1 < k
  · go_wp2_with fail
    go_ret
    exact ⟨rfl, hb1⟩
  have hk1' : decide (1 < k) = false := by simpa using hk1
  by_cases hj0 : j < 0
  · go_wp2_with fail
    go_ret
    exact ⟨rfl, hb1⟩
  have hj0' : decide (j < 0) = false := by simpa using hj0
  by_cases hj1 : 1 < j
  · go_wp2_with fail
    go_ret
    exact ⟨rfl, hb1⟩
  have hj1' : decide (1 < j) = false := by simpa using hj1
  by_cases hz0 : 0 < z
  · have hz1 : decide (0 < z) = true := by simpa using hz0
    go_wp2_with fail
    go_ret
    exact ⟨rfl, hb1⟩
  have hz1 : decide (0 < z) = false := by simpa using hz0
  have hlx := lit_any ⟨k, n, t⟩
  have hly := lit_any ⟨j, m, u⟩
  simp only [Vl.val] at hlx hly
  go_upto_region 5 with fail
  clear c0 c1 c2 d0 d1 d2
  go_cut [5, 6] (fun p q wx => ∃ gx gy, p = .pointer (some ⟨gx, 0, none⟩) ∧ q = .pointer (some ⟨gy, 0, none⟩) ∧ At wx gx 26 #[.int .i64 1, .int .i64 0, .int .i64 k, .int .i64 n, .string ⟨t.toArray⟩, .slice none 0 0] ∧ At wx gy 26 #[.int .i64 1, .int .i64 0, .int .i64 j, .int .i64 m, .string ⟨u.toArray⟩, .slice none 0 0] ∧ Below w.heap.size w wx)
  case first =>
    replace hA1 : At w1.drew w.heap.size 23 #[.int .i64 k, .int .i64 n, .string ⟨t.toArray⟩] := hA1
    replace hB1 : At w1.drew (w.heap.size + 1) 23 #[.int .i64 j, .int .i64 m, .string ⟨u.toArray⟩] := hB1
    replace hb1 : Below w.heap.size w w1.drew := hb1.drew
    refine wp_region_held_drew (S := fun w' => At w' w.heap.size 23 #[.int .i64 k, .int .i64 n, .string ⟨t.toArray⟩] ∧ At w' (w.heap.size + 1) 23 #[.int .i64 j, .int .i64 m, .string ⟨u.toArray⟩]) (by kernel_rfl) ⟨hA1, hB1⟩ (fun hS => ?_)
    generalize w1.drew = w1 at *
    refine take_at (i := 0) (v := ?_) rfl rfl (by kernel_rfl) (by kernel_rfl) (by kernel_rfl) (fun _ _ _ h => h) (by rfl) hS ?_ ?_
    rotate_left
    · intro w' hw
      obtain ⟨c0, c1, c2, -, -, -⟩ := At.three hw.1
      go_simp
      try with_reducible rfl
    try simp only [List.setIfInBounds_toArray, List.set_cons_zero, List.set_cons_succ]
    refine take_at (i := 2) (v := ?_) rfl rfl (by kernel_rfl) (by kernel_rfl) (by kernel_rfl) (fun _ _ _ h => h) (by rfl) hS ?_ ?_
    rotate_left
    · intro w' hw
      obtain ⟨c0, c1, c2, -, -, -⟩ := At.three hw.2
      go_simp
      try with_reducible rfl
    try simp only [List.setIfInBounds_toArray, List.set_cons_zero, List.set_cons_succ]
    refine three_at (i := 1) (j := 4) (k := 5) rfl rfl rfl (by kernel_rfl) (by rfl) (by rfl) (by rfl) (fun K hK => ?_) (fun K hK => ?_) (fun K hK => ?_)
    · go_simp
      refine (hlx _).mono ?_
      clear hS
      intro e w2 he
      obtain ⟨rfl, b2⟩ := he
      have hb2 := below_in hb1 b2
      have hA2 := hA1.below b2 hA1.lt
      have hB2 := hB1.below b2 hB1.lt
      simp only [Ex.val, Ex.op, Ex.col, Ex.v, Ex.A, Ex.n, Ex.cap]
      go_simp
      refine hK.out _ _ (⟨hA2, hB2⟩) (fun hS => ?_)
      clear hK K
      try simp only [Act.put, List.setIfInBounds_toArray, List.set_cons_zero, List.set_cons_succ]
      refine three_at (i := 3) (j := 4) (k := 5) rfl rfl rfl (by kernel_rfl) (by rfl) (by rfl) (by rfl) (fun K hK => ?_) (fun K hK => ?_) (fun K hK => ?_)
      · go_simp
        refine (hly _).mono ?_
        clear hS
        intro e w3 he
        obtain ⟨rfl, b3⟩ := he
        have hb3 := below_in hb2 b3
        have hA3 := hA2.below b3 hA2.lt
        have hB3 := hB2.below b3 hB2.lt
        simp only [Ex.val, Ex.op, Ex.col, Ex.v, Ex.A, Ex.n, Ex.cap]
        go_simp
        refine hK.out _ _ (⟨hA3, hB3⟩) (fun hS => ?_)
        clear hK K
        try simp only [Act.put, List.setIfInBounds_toArray, List.set_cons_zero, List.set_cons_succ]
        refine two_at (i := 4) (j := 5) rfl rfl (by kernel_rfl) (by rfl) (by rfl) (fun K hK => ?_) (fun K hK => ?_)
        · go_simp
          have hX4 := At.fresh w3 26 #[.int .i64 0, .int .i64 0, .int .i64 0, .int .i64 0, .string ⟨#[]⟩, .slice none 0 0]
          have bx := below_box w3 (.cells #[.int .i64 0, .int .i64 0, .int .i64 0, .int .i64 0, .string ⟨#[]⟩, .slice none 0 0] 26)
          have hb4 := below_in hb3 bx
          have hA4 := hA3.below bx hA3.lt
          have hB4 := hB3.below bx hB3.lt
          refine hK.out _ _ (⟨hA4, hB4⟩) (fun hS => ?_)
          clear hK K
          try simp only [Act.put, List.setIfInBounds_toArray, List.set_cons_zero, List.set_cons_succ]
          have hagx : ¬ w.heap.size = w3.heap.size := Nat.ne_of_lt hA3.lt
          have hbgx : ¬ w.heap.size + 1 = w3.heap.size := Nat.ne_of_lt hB3.lt
          have hlgx : w.heap.size ≤ w3.heap.size := hb3.size
          generalize hg : w3.heap.size = gx at *
          generalize hw : w3.alloc (.cells #[.int .i64 0, .int .i64 0, .int .i64 0, .int .i64 0, .string ⟨#[]⟩, .slice none 0 0] 26) = w4 at *
          clear hw bx hg
          refine only_at (i := 5) rfl (by kernel_rfl) (by rfl) (fun K hK => ?_)
          go_simp
          have hY5 := At.fresh w4 26 #[.int .i64 0, .int .i64 0, .int .i64 0, .int .i64 0, .string ⟨#[]⟩, .slice none 0 0]
          have bx := below_box w4 (.cells #[.int .i64 0, .int .i64 0, .int .i64 0, .int .i64 0, .string ⟨#[]⟩, .slice none 0 0] 26)
          have hb5 := below_in hb4 bx
          have hA5 := hA4.below bx hA4.lt
          have hB5 := hB4.below bx hB4.lt
          have hX5 := hX4.below bx hX4.lt
          have hxy : ¬ gx = w4.heap.size := Nat.ne_of_lt hX4.lt
          refine hK.out _ _ (⟨hA5, hB5⟩) (fun hS => ?_)
          clear hK K
          try simp only [Act.put, List.setIfInBounds_toArray, List.set_cons_zero, List.set_cons_succ]
          have hagy : ¬ w.heap.size = w4.heap.size := Nat.ne_of_lt hA4.lt
          have hbgy : ¬ w.heap.size + 1 = w4.heap.size := Nat.ne_of_lt hB4.lt
          have hlgy : w.heap.size ≤ w4.heap.size := hb4.size
          generalize hg : w4.heap.size = gy at *
          generalize hw : w4.alloc (.cells #[.int .i64 0, .int .i64 0, .int .i64 0, .int .i64 0, .string ⟨#[]⟩, .slice none 0 0] 26) = w5 at *
          clear hw bx hg
          have fx := hX5.sixf
          obtain ⟨x0, x1, x2, x3, x4, x5⟩ := hX5.six
          obtain ⟨f0, f1, f2, f3, f4, f5⟩ := fx
          refine only_at (i := 6) rfl (by kernel_rfl) (by rfl) (fun K hK => ?_)
          go_simp
          clear x0 x1 x2 x3 x4 x5 f0 f1 f2 f3 f4 f5
          have hA6 := hA5.away6 hagx (.int .i64 1) (.int .i64 0) (.int .i64 k) (.int .i64 n) (.string ⟨t.toArray⟩) (.slice none 0 0)
          have hB6 := hB5.away6 hbgx (.int .i64 1) (.int .i64 0) (.int .i64 k) (.int .i64 n) (.string ⟨t.toArray⟩) (.slice none 0 0)
          have hY6 := hY5.away6 (Ne.symm hxy) (.int .i64 1) (.int .i64 0) (.int .i64 k) (.int .i64 n) (.string ⟨t.toArray⟩) (.slice none 0 0)
          have hX6 := hX5.put6 (.int .i64 1) (.int .i64 0) (.int .i64 k) (.int .i64 n) (.string ⟨t.toArray⟩) (.slice none 0 0)
          have hb6 := below_put6 hb5 hlgx (.int .i64 1) (.int .i64 0) (.int .i64 k) (.int .i64 n) (.string ⟨t.toArray⟩) (.slice none 0 0)
          refine hK.out _ _ (⟨hA6, hB6⟩) (fun hS => ?_)
          clear hK K
          try simp only [Act.put, List.setIfInBounds_toArray, List.set_cons_zero, List.set_cons_succ]
          generalize (((((w5.setCell ⟨gx, 0, none⟩ (.int .i64 1)).setCell ⟨gx, 1, none⟩ (.int .i64 0)).setCell ⟨gx, 2, none⟩ (.int .i64 k)).setCell ⟨gx, 3, none⟩ (.int .i64 n)).setCell ⟨gx, 4, none⟩ (.string ⟨t.toArray⟩)).setCell ⟨gx, 5, none⟩ (.slice none 0 0) = w6 at *
          have fx := hY6.sixf
          obtain ⟨x0, x1, x2, x3, x4, x5⟩ := hY6.six
          obtain ⟨f0, f1, f2, f3, f4, f5⟩ := fx
          refine only_at (i := 7) rfl (by kernel_rfl) (by rfl) (fun K hK => ?_)
          go_simp
          clear x0 x1 x2 x3 x4 x5 f0 f1 f2 f3 f4 f5
          have hA7 := hA6.away6 hagy (.int .i64 1) (.int .i64 0) (.int .i64 j) (.int .i64 m) (.string ⟨u.toArray⟩) (.slice none 0 0)
          have hB7 := hB6.away6 hbgy (.int .i64 1) (.int .i64 0) (.int .i64 j) (.int .i64 m) (.string ⟨u.toArray⟩) (.slice none 0 0)
          have hX7 := hX6.away6 hxy (.int .i64 1) (.int .i64 0) (.int .i64 j) (.int .i64 m) (.string ⟨u.toArray⟩) (.slice none 0 0)
          have hY7 := hY6.put6 (.int .i64 1) (.int .i64 0) (.int .i64 j) (.int .i64 m) (.string ⟨u.toArray⟩) (.slice none 0 0)
          have hb7 := below_put6 hb6 hlgy (.int .i64 1) (.int .i64 0) (.int .i64 j) (.int .i64 m) (.string ⟨u.toArray⟩) (.slice none 0 0)
          refine hK.out _ _ (⟨hA7, hB7⟩) (fun hS => ?_)
          clear hK K
          try simp only [Act.put, List.setIfInBounds_toArray, List.set_cons_zero, List.set_cons_succ]
          refine wpAnyH_done (by kernel_rfl) ?_ _
          clear hS
          go_wp2_with fail
          go_meet
          exact ⟨gx, gy, rfl, rfl, hX7, hY7, hb7⟩
        · go_simp
          have hY4 := At.fresh w3 26 #[.int .i64 0, .int .i64 0, .int .i64 0, .int .i64 0, .string ⟨#[]⟩, .slice none 0 0]
          have bx := below_box w3 (.cells #[.int .i64 0, .int .i64 0, .int .i64 0, .int .i64 0, .string ⟨#[]⟩, .slice none 0 0] 26)
          have hb4 := below_in hb3 bx
          have hA4 := hA3.below bx hA3.lt
          have hB4 := hB3.below bx hB3.lt
          refine hK.out _ _ (⟨hA4, hB4⟩) (fun hS => ?_)
          clear hK K
          try simp only [Act.put, List.setIfInBounds_toArray, List.set_cons_zero, List.set_cons_succ]
          have hagy : ¬ w.heap.size = w3.heap.size := Nat.ne_of_lt hA3.lt
          have hbgy : ¬ w.heap.size + 1 = w3.heap.size := Nat.ne_of_lt hB3.lt
          have hlgy : w.heap.size ≤ w3.heap.size := hb3.size
          generalize hg : w3.heap.size = gy at *
          generalize hw : w3.alloc (.cells #[.int .i64 0, .int .i64 0, .int .i64 0, .int .i64 0, .string ⟨#[]⟩, .slice none 0 0] 26) = w4 at *
          clear hw bx hg
          refine only_at (i := 4) rfl (by kernel_rfl) (by rfl) (fun K hK => ?_)
          go_simp
          have hX5 := At.fresh w4 26 #[.int .i64 0, .int .i64 0, .int .i64 0, .int .i64 0, .string ⟨#[]⟩, .slice none 0 0]
          have bx := below_box w4 (.cells #[.int .i64 0, .int .i64 0, .int .i64 0, .int .i64 0, .string ⟨#[]⟩, .slice none 0 0] 26)
          have hb5 := below_in hb4 bx
          have hA5 := hA4.below bx hA4.lt
          have hB5 := hB4.below bx hB4.lt
          have hY5 := hY4.below bx hY4.lt
          have hxy : ¬ w4.heap.size = gy := Nat.ne_of_gt hY4.lt
          refine hK.out _ _ (⟨hA5, hB5⟩) (fun hS => ?_)
          clear hK K
          try simp only [Act.put, List.setIfInBounds_toArray, List.set_cons_zero, List.set_cons_succ]
          have hagx : ¬ w.heap.size = w4.heap.size := Nat.ne_of_lt hA4.lt
          have hbgx : ¬ w.heap.size + 1 = w4.heap.size := Nat.ne_of_lt hB4.lt
          have hlgx : w.heap.size ≤ w4.heap.size := hb4.size
          generalize hg : w4.heap.size = gx at *
          generalize hw : w4.alloc (.cells #[.int .i64 0, .int .i64 0, .int .i64 0, .int .i64 0, .string ⟨#[]⟩, .slice none 0 0] 26) = w5 at *
          clear hw bx hg
          have fx := hX5.sixf
          obtain ⟨x0, x1, x2, x3, x4, x5⟩ := hX5.six
          obtain ⟨f0, f1, f2, f3, f4, f5⟩ := fx
          refine only_at (i := 6) rfl (by kernel_rfl) (by rfl) (fun K hK => ?_)
          go_simp
          clear x0 x1 x2 x3 x4 x5 f0 f1 f2 f3 f4 f5
          have hA6 := hA5.away6 hagx (.int .i64 1) (.int .i64 0) (.int .i64 k) (.int .i64 n) (.string ⟨t.toArray⟩) (.slice none 0 0)
          have hB6 := hB5.away6 hbgx (.int .i64 1) (.int .i64 0) (.int .i64 k) (.int .i64 n) (.string ⟨t.toArray⟩) (.slice none 0 0)
          have hY6 := hY5.away6 (Ne.symm hxy) (.int .i64 1) (.int .i64 0) (.int .i64 k) (.int .i64 n) (.string ⟨t.toArray⟩) (.slice none 0 0)
          have hX6 := hX5.put6 (.int .i64 1) (.int .i64 0) (.int .i64 k) (.int .i64 n) (.string ⟨t.toArray⟩) (.slice none 0 0)
          have hb6 := below_put6 hb5 hlgx (.int .i64 1) (.int .i64 0) (.int .i64 k) (.int .i64 n) (.string ⟨t.toArray⟩) (.slice none 0 0)
          refine hK.out _ _ (⟨hA6, hB6⟩) (fun hS => ?_)
          clear hK K
          try simp only [Act.put, List.setIfInBounds_toArray, List.set_cons_zero, List.set_cons_succ]
          generalize (((((w5.setCell ⟨gx, 0, none⟩ (.int .i64 1)).setCell ⟨gx, 1, none⟩ (.int .i64 0)).setCell ⟨gx, 2, none⟩ (.int .i64 k)).setCell ⟨gx, 3, none⟩ (.int .i64 n)).setCell ⟨gx, 4, none⟩ (.string ⟨t.toArray⟩)).setCell ⟨gx, 5, none⟩ (.slice none 0 0) = w6 at *
          have fx := hY6.sixf
          obtain ⟨x0, x1, x2, x3, x4, x5⟩ := hY6.six
          obtain ⟨f0, f1, f2, f3, f4, f5⟩ := fx
          refine only_at (i := 7) rfl (by kernel_rfl) (by rfl) (fun K hK => ?_)
          go_simp
          clear x0 x1 x2 x3 x4 x5 f0 f1 f2 f3 f4 f5
          have hA7 := hA6.away6 hagy (.int .i64 1) (.int .i64 0) (.int .i64 j) (.int .i64 m) (.string ⟨u.toArray⟩) (.slice none 0 0)
          have hB7 := hB6.away6 hbgy (.int .i64 1) (.int .i64 0) (.int .i64 j) (.int .i64 m) (.string ⟨u.toArray⟩) (.slice none 0 0)
          have hX7 := hX6.away6 hxy (.int .i64 1) (.int .i64 0) (.int .i64 j) (.int .i64 m) (.string ⟨u.toArray⟩) (.slice none 0 0)
          have hY7 := hY6.put6 (.int .i64 1) (.int .i64 0) (.int .i64 j) (.int .i64 m) (.string ⟨u.toArray⟩) (.slice none 0 0)
          have hb7 := below_put6 hb6 hlgy (.int .i64 1) (.int .i64 0) (.int .i64 j) (.int .i64 m) (.string ⟨u.toArray⟩) (.slice none 0 0)
          refine hK.out _ _ (⟨hA7, hB7⟩) (fun hS => ?_)
          clear hK K
          try simp only [Act.put, List.setIfInBounds_toArray, List.set_cons_zero, List.set_cons_succ]
          refine wpAnyH_done (by kernel_rfl) ?_ _
          clear hS
          go_wp2_with fail
          go_meet
          exact ⟨gx, gy, rfl, rfl, hX7, hY7, hb7⟩
      · go_simp
        have hX3 := At.fresh w2 26 #[.int .i64 0, .int .i64 0, .int .i64 0, .int .i64 0, .string ⟨#[]⟩, .slice none 0 0]
        have bx := below_box w2 (.cells #[.int .i64 0, .int .i64 0, .int .i64 0, .int .i64 0, .string ⟨#[]⟩, .slice none 0 0] 26)
        have hb3 := below_in hb2 bx
        have hA3 := hA2.below bx hA2.lt
        have hB3 := hB2.below bx hB2.lt
        refine hK.out _ _ (⟨hA3, hB3⟩) (fun hS => ?_)
        clear hK K
        try simp only [Act.put, List.setIfInBounds_toArray, List.set_cons_zero, List.set_cons_succ]
        have hagx : ¬ w.heap.size = w2.heap.size := Nat.ne_of_lt hA2.lt
        have hbgx : ¬ w.heap.size + 1 = w2.heap.size := Nat.ne_of_lt hB2.lt
        have hlgx : w.heap.size ≤ w2.heap.size := hb2.size
        generalize hg : w2.heap.size = gx at *
        generalize hw : w2.alloc (.cells #[.int .i64 0, .int .i64 0, .int .i64 0, .int .i64 0, .string ⟨#[]⟩, .slice none 0 0] 26) = w3 at *
        clear hw bx hg
        refine two_at (i := 3) (j := 5) rfl rfl (by kernel_rfl) (by rfl) (by rfl) (fun K hK => ?_) (fun K hK => ?_)
        · go_simp
          refine (hly _).mono ?_
          clear hS
          intro e w4 he
          obtain ⟨rfl, b4⟩ := he
          have hb4 := below_in hb3 b4
          have hA4 := hA3.below b4 hA3.lt
          have hB4 := hB3.below b4 hB3.lt
          have hX4 := hX3.below b4 hX3.lt
          simp only [Ex.val, Ex.op, Ex.col, Ex.v, Ex.A, Ex.n, Ex.cap]
          go_simp
          refine hK.out _ _ (⟨hA4, hB4⟩) (fun hS => ?_)
          clear hK K
          try simp only [Act.put, List.setIfInBounds_toArray, List.set_cons_zero, List.set_cons_succ]
          refine only_at (i := 5) rfl (by kernel_rfl) (by rfl) (fun K hK => ?_)
          go_simp
          have hY5 := At.fresh w4 26 #[.int .i64 0, .int .i64 0, .int .i64 0, .int .i64 0, .string ⟨#[]⟩, .slice none 0 0]
          have bx := below_box w4 (.cells #[.int .i64 0, .int .i64 0, .int .i64 0, .int .i64 0, .string ⟨#[]⟩, .slice none 0 0] 26)
          have hb5 := below_in hb4 bx
          have hA5 := hA4.below bx hA4.lt
          have hB5 := hB4.below bx hB4.lt
          have hX5 := hX4.below bx hX4.lt
          have hxy : ¬ gx = w4.heap.size := Nat.ne_of_lt hX4.lt
          refine hK.out _ _ (⟨hA5, hB5⟩) (fun hS => ?_)
          clear hK K
          try simp only [Act.put, List.setIfInBounds_toArray, List.set_cons_zero, List.set_cons_succ]
          have hagy : ¬ w.heap.size = w4.heap.size := Nat.ne_of_lt hA4.lt
          have hbgy : ¬ w.heap.size + 1 = w4.heap.size := Nat.ne_of_lt hB4.lt
          have hlgy : w.heap.size ≤ w4.heap.size := hb4.size
          generalize hg : w4.heap.size = gy at *
          generalize hw : w4.alloc (.cells #[.int .i64 0, .int .i64 0, .int .i64 0, .int .i64 0, .string ⟨#[]⟩, .slice none 0 0] 26) = w5 at *
          clear hw bx hg
          have fx := hX5.sixf
          obtain ⟨x0, x1, x2, x3, x4, x5⟩ := hX5.six
          obtain ⟨f0, f1, f2, f3, f4, f5⟩ := fx
          refine only_at (i := 6) rfl (by kernel_rfl) (by rfl) (fun K hK => ?_)
          go_simp
          clear x0 x1 x2 x3 x4 x5 f0 f1 f2 f3 f4 f5
          have hA6 := hA5.away6 hagx (.int .i64 1) (.int .i64 0) (.int .i64 k) (.int .i64 n) (.string ⟨t.toArray⟩) (.slice none 0 0)
          have hB6 := hB5.away6 hbgx (.int .i64 1) (.int .i64 0) (.int .i64 k) (.int .i64 n) (.string ⟨t.toArray⟩) (.slice none 0 0)
          have hY6 := hY5.away6 (Ne.symm hxy) (.int .i64 1) (.int .i64 0) (.int .i64 k) (.int .i64 n) (.string ⟨t.toArray⟩) (.slice none 0 0)
          have hX6 := hX5.put6 (.int .i64 1) (.int .i64 0) (.int .i64 k) (.int .i64 n) (.string ⟨t.toArray⟩) (.slice none 0 0)
          have hb6 := below_put6 hb5 hlgx (.int .i64 1) (.int .i64 0) (.int .i64 k) (.int .i64 n) (.string ⟨t.toArray⟩) (.slice none 0 0)
          refine hK.out _ _ (⟨hA6, hB6⟩) (fun hS => ?_)
          clear hK K
          try simp only [Act.put, List.setIfInBounds_toArray, List.set_cons_zero, List.set_cons_succ]
          generalize (((((w5.setCell ⟨gx, 0, none⟩ (.int .i64 1)).setCell ⟨gx, 1, none⟩ (.int .i64 0)).setCell ⟨gx, 2, none⟩ (.int .i64 k)).setCell ⟨gx, 3, none⟩ (.int .i64 n)).setCell ⟨gx, 4, none⟩ (.string ⟨t.toArray⟩)).setCell ⟨gx, 5, none⟩ (.slice none 0 0) = w6 at *
          have fx := hY6.sixf
          obtain ⟨x0, x1, x2, x3, x4, x5⟩ := hY6.six
          obtain ⟨f0, f1, f2, f3, f4, f5⟩ := fx
          refine only_at (i := 7) rfl (by kernel_rfl) (by rfl) (fun K hK => ?_)
          go_simp
          clear x0 x1 x2 x3 x4 x5 f0 f1 f2 f3 f4 f5
          have hA7 := hA6.away6 hagy (.int .i64 1) (.int .i64 0) (.int .i64 j) (.int .i64 m) (.string ⟨u.toArray⟩) (.slice none 0 0)
          have hB7 := hB6.away6 hbgy (.int .i64 1) (.int .i64 0) (.int .i64 j) (.int .i64 m) (.string ⟨u.toArray⟩) (.slice none 0 0)
          have hX7 := hX6.away6 hxy (.int .i64 1) (.int .i64 0) (.int .i64 j) (.int .i64 m) (.string ⟨u.toArray⟩) (.slice none 0 0)
          have hY7 := hY6.put6 (.int .i64 1) (.int .i64 0) (.int .i64 j) (.int .i64 m) (.string ⟨u.toArray⟩) (.slice none 0 0)
          have hb7 := below_put6 hb6 hlgy (.int .i64 1) (.int .i64 0) (.int .i64 j) (.int .i64 m) (.string ⟨u.toArray⟩) (.slice none 0 0)
          refine hK.out _ _ (⟨hA7, hB7⟩) (fun hS => ?_)
          clear hK K
          try simp only [Act.put, List.setIfInBounds_toArray, List.set_cons_zero, List.set_cons_succ]
          refine wpAnyH_done (by kernel_rfl) ?_ _
          clear hS
          go_wp2_with fail
          go_meet
          exact ⟨gx, gy, rfl, rfl, hX7, hY7, hb7⟩
        · go_simp
          have hY4 := At.fresh w3 26 #[.int .i64 0, .int .i64 0, .int .i64 0, .int .i64 0, .string ⟨#[]⟩, .slice none 0 0]
          have bx := below_box w3 (.cells #[.int .i64 0, .int .i64 0, .int .i64 0, .int .i64 0, .string ⟨#[]⟩, .slice none 0 0] 26)
          have hb4 := below_in hb3 bx
          have hA4 := hA3.below bx hA3.lt
          have hB4 := hB3.below bx hB3.lt
          have hX4 := hX3.below bx hX3.lt
          have hxy : ¬ gx = w3.heap.size := Nat.ne_of_lt hX3.lt
          refine hK.out _ _ (⟨hA4, hB4⟩) (fun hS => ?_)
          clear hK K
          try simp only [Act.put, List.setIfInBounds_toArray, List.set_cons_zero, List.set_cons_succ]
          have hagy : ¬ w.heap.size = w3.heap.size := Nat.ne_of_lt hA3.lt
          have hbgy : ¬ w.heap.size + 1 = w3.heap.size := Nat.ne_of_lt hB3.lt
          have hlgy : w.heap.size ≤ w3.heap.size := hb3.size
          generalize hg : w3.heap.size = gy at *
          generalize hw : w3.alloc (.cells #[.int .i64 0, .int .i64 0, .int .i64 0, .int .i64 0, .string ⟨#[]⟩, .slice none 0 0] 26) = w4 at *
          clear hw bx hg
          refine only_at (i := 3) rfl (by kernel_rfl) (by rfl) (fun K hK => ?_)
          go_simp
          refine (hly _).mono ?_
          clear hS
          intro e w5 he
          obtain ⟨rfl, b5⟩ := he
          have hb5 := below_in hb4 b5
          have hA5 := hA4.below b5 hA4.lt
          have hB5 := hB4.below b5 hB4.lt
          have hX5 := hX4.below b5 hX4.lt
          have hY5 := hY4.below b5 hY4.lt
          simp only [Ex.val, Ex.op, Ex.col, Ex.v, Ex.A, Ex.n, Ex.cap]
          go_simp
          refine hK.out _ _ (⟨hA5, hB5⟩) (fun hS => ?_)
          clear hK K
          try simp only [Act.put, List.setIfInBounds_toArray, List.set_cons_zero, List.set_cons_succ]
          have fx := hX5.sixf
          obtain ⟨x0, x1, x2, x3, x4, x5⟩ := hX5.six
          obtain ⟨f0, f1, f2, f3, f4, f5⟩ := fx
          refine only_at (i := 6) rfl (by kernel_rfl) (by rfl) (fun K hK => ?_)
          go_simp
          clear x0 x1 x2 x3 x4 x5 f0 f1 f2 f3 f4 f5
          have hA6 := hA5.away6 hagx (.int .i64 1) (.int .i64 0) (.int .i64 k) (.int .i64 n) (.string ⟨t.toArray⟩) (.slice none 0 0)
          have hB6 := hB5.away6 hbgx (.int .i64 1) (.int .i64 0) (.int .i64 k) (.int .i64 n) (.string ⟨t.toArray⟩) (.slice none 0 0)
          have hY6 := hY5.away6 (Ne.symm hxy) (.int .i64 1) (.int .i64 0) (.int .i64 k) (.int .i64 n) (.string ⟨t.toArray⟩) (.slice none 0 0)
          have hX6 := hX5.put6 (.int .i64 1) (.int .i64 0) (.int .i64 k) (.int .i64 n) (.string ⟨t.toArray⟩) (.slice none 0 0)
          have hb6 := below_put6 hb5 hlgx (.int .i64 1) (.int .i64 0) (.int .i64 k) (.int .i64 n) (.string ⟨t.toArray⟩) (.slice none 0 0)
          refine hK.out _ _ (⟨hA6, hB6⟩) (fun hS => ?_)
          clear hK K
          try simp only [Act.put, List.setIfInBounds_toArray, List.set_cons_zero, List.set_cons_succ]
          generalize (((((w5.setCell ⟨gx, 0, none⟩ (.int .i64 1)).setCell ⟨gx, 1, none⟩ (.int .i64 0)).setCell ⟨gx, 2, none⟩ (.int .i64 k)).setCell ⟨gx, 3, none⟩ (.int .i64 n)).setCell ⟨gx, 4, none⟩ (.string ⟨t.toArray⟩)).setCell ⟨gx, 5, none⟩ (.slice none 0 0) = w6 at *
          have fx := hY6.sixf
          obtain ⟨x0, x1, x2, x3, x4, x5⟩ := hY6.six
          obtain ⟨f0, f1, f2, f3, f4, f5⟩ := fx
          refine only_at (i := 7) rfl (by kernel_rfl) (by rfl) (fun K hK => ?_)
          go_simp
          clear x0 x1 x2 x3 x4 x5 f0 f1 f2 f3 f4 f5
          have hA7 := hA6.away6 hagy (.int .i64 1) (.int .i64 0) (.int .i64 j) (.int .i64 m) (.string ⟨u.toArray⟩) (.slice none 0 0)
          have hB7 := hB6.away6 hbgy (.int .i64 1) (.int .i64 0) (.int .i64 j) (.int .i64 m) (.string ⟨u.toArray⟩) (.slice none 0 0)
          have hX7 := hX6.away6 hxy (.int .i64 1) (.int .i64 0) (.int .i64 j) (.int .i64 m) (.string ⟨u.toArray⟩) (.slice none 0 0)
          have hY7 := hY6.put6 (.int .i64 1) (.int .i64 0) (.int .i64 j) (.int .i64 m) (.string ⟨u.toArray⟩) (.slice none 0 0)
          have hb7 := below_put6 hb6 hlgy (.int .i64 1) (.int .i64 0) (.int .i64 j) (.int .i64 m) (.string ⟨u.toArray⟩) (.slice none 0 0)
          refine hK.out _ _ (⟨hA7, hB7⟩) (fun hS => ?_)
          clear hK K
          try simp only [Act.put, List.setIfInBounds_toArray, List.set_cons_zero, List.set_cons_succ]
          refine wpAnyH_done (by kernel_rfl) ?_ _
          clear hS
          go_wp2_with fail
          go_meet
          exact ⟨gx, gy, rfl, rfl, hX7, hY7, hb7⟩
      · go_simp
        have hY3 := At.fresh w2 26 #[.int .i64 0, .int .i64 0, .int .i64 0, .int .i64 0, .string ⟨#[]⟩, .slice none 0 0]
        have bx := below_box w2 (.cells #[.int .i64 0, .int .i64 0, .int .i64 0, .int .i64 0, .string ⟨#[]⟩, .slice none 0 0] 26)
        have hb3 := below_in hb2 bx
        have hA3 := hA2.below bx hA2.lt
        have hB3 := hB2.below bx hB2.lt
        refine hK.out _ _ (⟨hA3, hB3⟩) (fun hS => ?_)
        clear hK K
        try simp only [Act.put, List.setIfInBounds_toArray, List.set_cons_zero, List.set_cons_succ]
        have hagy : ¬ w.heap.size = w2.heap.size := Nat.ne_of_lt hA2.lt
        have hbgy : ¬ w.heap.size + 1 = w2.heap.size := Nat.ne_of_lt hB2.lt
        have hlgy : w.heap.size ≤ w2.heap.size := hb2.size
        generalize hg : w2.heap.size = gy at *
        generalize hw : w2.alloc (.cells #[.int .i64 0, .int .i64 0, .int .i64 0, .int .i64 0, .string ⟨#[]⟩, .slice none 0 0] 26) = w3 at *
        clear hw bx hg
        refine two_at (i := 3) (j := 4) rfl rfl (by kernel_rfl) (by rfl) (by rfl) (fun K hK => ?_) (fun K hK => ?_)
        · go_simp
          refine (hly _).mono ?_
          clear hS
          intro e w4 he
          obtain ⟨rfl, b4⟩ := he
          have hb4 := below_in hb3 b4
          have hA4 := hA3.below b4 hA3.lt
          have hB4 := hB3.below b4 hB3.lt
          have hY4 := hY3.below b4 hY3.lt
          simp only [Ex.val, Ex.op, Ex.col, Ex.v, Ex.A, Ex.n, Ex.cap]
          go_simp
          refine hK.out _ _ (⟨hA4, hB4⟩) (fun hS => ?_)
          clear hK K
          try simp only [Act.put, List.setIfInBounds_toArray, List.set_cons_zero, List.set_cons_succ]
          refine only_at (i := 4) rfl (by kernel_rfl) (by rfl) (fun K hK => ?_)
          go_simp
          have hX5 := At.fresh w4 26 #[.int .i64 0, .int .i64 0, .int .i64 0, .int .i64 0, .string ⟨#[]⟩, .slice none 0 0]
          have bx := below_box w4 (.cells #[.int .i64 0, .int .i64 0, .int .i64 0, .int .i64 0, .string ⟨#[]⟩, .slice none 0 0] 26)
          have hb5 := below_in hb4 bx
          have hA5 := hA4.below bx hA4.lt
          have hB5 := hB4.below bx hB4.lt
          have hY5 := hY4.below bx hY4.lt
          have hxy : ¬ w4.heap.size = gy := Nat.ne_of_gt hY4.lt
          refine hK.out _ _ (⟨hA5, hB5⟩) (fun hS => ?_)
          clear hK K
          try simp only [Act.put, List.setIfInBounds_toArray, List.set_cons_zero, List.set_cons_succ]
          have hagx : ¬ w.heap.size = w4.heap.size := Nat.ne_of_lt hA4.lt
          have hbgx : ¬ w.heap.size + 1 = w4.heap.size := Nat.ne_of_lt hB4.lt
          have hlgx : w.heap.size ≤ w4.heap.size := hb4.size
          generalize hg : w4.heap.size = gx at *
          generalize hw : w4.alloc (.cells #[.int .i64 0, .int .i64 0, .int .i64 0, .int .i64 0, .string ⟨#[]⟩, .slice none 0 0] 26) = w5 at *
          clear hw bx hg
          have fx := hX5.sixf
          obtain ⟨x0, x1, x2, x3, x4, x5⟩ := hX5.six
          obtain ⟨f0, f1, f2, f3, f4, f5⟩ := fx
          refine only_at (i := 6) rfl (by kernel_rfl) (by rfl) (fun K hK => ?_)
          go_simp
          clear x0 x1 x2 x3 x4 x5 f0 f1 f2 f3 f4 f5
          have hA6 := hA5.away6 hagx (.int .i64 1) (.int .i64 0) (.int .i64 k) (.int .i64 n) (.string ⟨t.toArray⟩) (.slice none 0 0)
          have hB6 := hB5.away6 hbgx (.int .i64 1) (.int .i64 0) (.int .i64 k) (.int .i64 n) (.string ⟨t.toArray⟩) (.slice none 0 0)
          have hY6 := hY5.away6 (Ne.symm hxy) (.int .i64 1) (.int .i64 0) (.int .i64 k) (.int .i64 n) (.string ⟨t.toArray⟩) (.slice none 0 0)
          have hX6 := hX5.put6 (.int .i64 1) (.int .i64 0) (.int .i64 k) (.int .i64 n) (.string ⟨t.toArray⟩) (.slice none 0 0)
          have hb6 := below_put6 hb5 hlgx (.int .i64 1) (.int .i64 0) (.int .i64 k) (.int .i64 n) (.string ⟨t.toArray⟩) (.slice none 0 0)
          refine hK.out _ _ (⟨hA6, hB6⟩) (fun hS => ?_)
          clear hK K
          try simp only [Act.put, List.setIfInBounds_toArray, List.set_cons_zero, List.set_cons_succ]
          generalize (((((w5.setCell ⟨gx, 0, none⟩ (.int .i64 1)).setCell ⟨gx, 1, none⟩ (.int .i64 0)).setCell ⟨gx, 2, none⟩ (.int .i64 k)).setCell ⟨gx, 3, none⟩ (.int .i64 n)).setCell ⟨gx, 4, none⟩ (.string ⟨t.toArray⟩)).setCell ⟨gx, 5, none⟩ (.slice none 0 0) = w6 at *
          have fx := hY6.sixf
          obtain ⟨x0, x1, x2, x3, x4, x5⟩ := hY6.six
          obtain ⟨f0, f1, f2, f3, f4, f5⟩ := fx
          refine only_at (i := 7) rfl (by kernel_rfl) (by rfl) (fun K hK => ?_)
          go_simp
          clear x0 x1 x2 x3 x4 x5 f0 f1 f2 f3 f4 f5
          have hA7 := hA6.away6 hagy (.int .i64 1) (.int .i64 0) (.int .i64 j) (.int .i64 m) (.string ⟨u.toArray⟩) (.slice none 0 0)
          have hB7 := hB6.away6 hbgy (.int .i64 1) (.int .i64 0) (.int .i64 j) (.int .i64 m) (.string ⟨u.toArray⟩) (.slice none 0 0)
          have hX7 := hX6.away6 hxy (.int .i64 1) (.int .i64 0) (.int .i64 j) (.int .i64 m) (.string ⟨u.toArray⟩) (.slice none 0 0)
          have hY7 := hY6.put6 (.int .i64 1) (.int .i64 0) (.int .i64 j) (.int .i64 m) (.string ⟨u.toArray⟩) (.slice none 0 0)
          have hb7 := below_put6 hb6 hlgy (.int .i64 1) (.int .i64 0) (.int .i64 j) (.int .i64 m) (.string ⟨u.toArray⟩) (.slice none 0 0)
          refine hK.out _ _ (⟨hA7, hB7⟩) (fun hS => ?_)
          clear hK K
          try simp only [Act.put, List.setIfInBounds_toArray, List.set_cons_zero, List.set_cons_succ]
          refine wpAnyH_done (by kernel_rfl) ?_ _
          clear hS
          go_wp2_with fail
          go_meet
          exact ⟨gx, gy, rfl, rfl, hX7, hY7, hb7⟩
        · go_simp
          have hX4 := At.fresh w3 26 #[.int .i64 0, .int .i64 0, .int .i64 0, .int .i64 0, .string ⟨#[]⟩, .slice none 0 0]
          have bx := below_box w3 (.cells #[.int .i64 0, .int .i64 0, .int .i64 0, .int .i64 0, .string ⟨#[]⟩, .slice none 0 0] 26)
          have hb4 := below_in hb3 bx
          have hA4 := hA3.below bx hA3.lt
          have hB4 := hB3.below bx hB3.lt
          have hY4 := hY3.below bx hY3.lt
          have hxy : ¬ w3.heap.size = gy := Nat.ne_of_gt hY3.lt
          refine hK.out _ _ (⟨hA4, hB4⟩) (fun hS => ?_)
          clear hK K
          try simp only [Act.put, List.setIfInBounds_toArray, List.set_cons_zero, List.set_cons_succ]
          have hagx : ¬ w.heap.size = w3.heap.size := Nat.ne_of_lt hA3.lt
          have hbgx : ¬ w.heap.size + 1 = w3.heap.size := Nat.ne_of_lt hB3.lt
          have hlgx : w.heap.size ≤ w3.heap.size := hb3.size
          generalize hg : w3.heap.size = gx at *
          generalize hw : w3.alloc (.cells #[.int .i64 0, .int .i64 0, .int .i64 0, .int .i64 0, .string ⟨#[]⟩, .slice none 0 0] 26) = w4 at *
          clear hw bx hg
          refine only_at (i := 3) rfl (by kernel_rfl) (by rfl) (fun K hK => ?_)
          go_simp
          refine (hly _).mono ?_
          clear hS
          intro e w5 he
          obtain ⟨rfl, b5⟩ := he
          have hb5 := below_in hb4 b5
          have hA5 := hA4.below b5 hA4.lt
          have hB5 := hB4.below b5 hB4.lt
          have hX5 := hX4.below b5 hX4.lt
          have hY5 := hY4.below b5 hY4.lt
          simp only [Ex.val, Ex.op, Ex.col, Ex.v, Ex.A, Ex.n, Ex.cap]
          go_simp
          refine hK.out _ _ (⟨hA5, hB5⟩) (fun hS => ?_)
          clear hK K
          try simp only [Act.put, List.setIfInBounds_toArray, List.set_cons_zero, List.set_cons_succ]
          have fx := hX5.sixf
          obtain ⟨x0, x1, x2, x3, x4, x5⟩ := hX5.six
          obtain ⟨f0, f1, f2, f3, f4, f5⟩ := fx
          refine only_at (i := 6) rfl (by kernel_rfl) (by rfl) (fun K hK => ?_)
          go_simp
          clear x0 x1 x2 x3 x4 x5 f0 f1 f2 f3 f4 f5
          have hA6 := hA5.away6 hagx (.int .i64 1) (.int .i64 0) (.int .i64 k) (.int .i64 n) (.string ⟨t.toArray⟩) (.slice none 0 0)
          have hB6 := hB5.away6 hbgx (.int .i64 1) (.int .i64 0) (.int .i64 k) (.int .i64 n) (.string ⟨t.toArray⟩) (.slice none 0 0)
          have hY6 := hY5.away6 (Ne.symm hxy) (.int .i64 1) (.int .i64 0) (.int .i64 k) (.int .i64 n) (.string ⟨t.toArray⟩) (.slice none 0 0)
          have hX6 := hX5.put6 (.int .i64 1) (.int .i64 0) (.int .i64 k) (.int .i64 n) (.string ⟨t.toArray⟩) (.slice none 0 0)
          have hb6 := below_put6 hb5 hlgx (.int .i64 1) (.int .i64 0) (.int .i64 k) (.int .i64 n) (.string ⟨t.toArray⟩) (.slice none 0 0)
          refine hK.out _ _ (⟨hA6, hB6⟩) (fun hS => ?_)
          clear hK K
          try simp only [Act.put, List.setIfInBounds_toArray, List.set_cons_zero, List.set_cons_succ]
          generalize (((((w5.setCell ⟨gx, 0, none⟩ (.int .i64 1)).setCell ⟨gx, 1, none⟩ (.int .i64 0)).setCell ⟨gx, 2, none⟩ (.int .i64 k)).setCell ⟨gx, 3, none⟩ (.int .i64 n)).setCell ⟨gx, 4, none⟩ (.string ⟨t.toArray⟩)).setCell ⟨gx, 5, none⟩ (.slice none 0 0) = w6 at *
          have fx := hY6.sixf
          obtain ⟨x0, x1, x2, x3, x4, x5⟩ := hY6.six
          obtain ⟨f0, f1, f2, f3, f4, f5⟩ := fx
          refine only_at (i := 7) rfl (by kernel_rfl) (by rfl) (fun K hK => ?_)
          go_simp
          clear x0 x1 x2 x3 x4 x5 f0 f1 f2 f3 f4 f5
          have hA7 := hA6.away6 hagy (.int .i64 1) (.int .i64 0) (.int .i64 j) (.int .i64 m) (.string ⟨u.toArray⟩) (.slice none 0 0)
          have hB7 := hB6.away6 hbgy (.int .i64 1) (.int .i64 0) (.int .i64 j) (.int .i64 m) (.string ⟨u.toArray⟩) (.slice none 0 0)
          have hX7 := hX6.away6 hxy (.int .i64 1) (.int .i64 0) (.int .i64 j) (.int .i64 m) (.string ⟨u.toArray⟩) (.slice none 0 0)
          have hY7 := hY6.put6 (.int .i64 1) (.int .i64 0) (.int .i64 j) (.int .i64 m) (.string ⟨u.toArray⟩) (.slice none 0 0)
          have hb7 := below_put6 hb6 hlgy (.int .i64 1) (.int .i64 0) (.int .i64 j) (.int .i64 m) (.string ⟨u.toArray⟩) (.slice none 0 0)
          refine hK.out _ _ (⟨hA7, hB7⟩) (fun hS => ?_)
          clear hK K
          try simp only [Act.put, List.setIfInBounds_toArray, List.set_cons_zero, List.set_cons_succ]
          refine wpAnyH_done (by kernel_rfl) ?_ _
          clear hS
          go_wp2_with fail
          go_meet
          exact ⟨gx, gy, rfl, rfl, hX7, hY7, hb7⟩
    · go_simp
      have hX2 := At.fresh w1 26 #[.int .i64 0, .int .i64 0, .int .i64 0, .int .i64 0, .string ⟨#[]⟩, .slice none 0 0]
      have bx := below_box w1 (.cells #[.int .i64 0, .int .i64 0, .int .i64 0, .int .i64 0, .string ⟨#[]⟩, .slice none 0 0] 26)
      have hb2 := below_in hb1 bx
      have hA2 := hA1.below bx hA1.lt
      have hB2 := hB1.below bx hB1.lt
      refine hK.out _ _ (⟨hA2, hB2⟩) (fun hS => ?_)
      clear hK K
      try simp only [Act.put, List.setIfInBounds_toArray, List.set_cons_zero, List.set_cons_succ]
      have hagx : ¬ w.heap.size = w1.heap.size := Nat.ne_of_lt hA1.lt
      have hbgx : ¬ w.heap.size + 1 = w1.heap.size := Nat.ne_of_lt hB1.lt
      have hlgx : w.heap.size ≤ w1.heap.size := hb1.size
      generalize hg : w1.heap.size = gx at *
      generalize hw : w1.alloc (.cells #[.int .i64 0, .int .i64 0, .int .i64 0, .int .i64 0, .string ⟨#[]⟩, .slice none 0 0] 26) = w2 at *
      clear hw bx hg
      refine two_at (i := 1) (j := 5) rfl rfl (by kernel_rfl) (by rfl) (by rfl) (fun K hK => ?_) (fun K hK => ?_)
      · go_simp
        refine (hlx _).mono ?_
        clear hS
        intro e w3 he
        obtain ⟨rfl, b3⟩ := he
        have hb3 := below_in hb2 b3
        have hA3 := hA2.below b3 hA2.lt
        have hB3 := hB2.below b3 hB2.lt
        have hX3 := hX2.below b3 hX2.lt
        simp only [Ex.val, Ex.op, Ex.col, Ex.v, Ex.A, Ex.n, Ex.cap]
        go_simp
        refine hK.out _ _ (⟨hA3, hB3⟩) (fun hS => ?_)
        clear hK K
        try simp only [Act.put, List.setIfInBounds_toArray, List.set_cons_zero, List.set_cons_succ]
        refine two_at (i := 3) (j := 5) rfl rfl (by kernel_rfl) (by rfl) (by rfl) (fun K hK => ?_) (fun K hK => ?_)
        · go_simp
          refine (hly _).mono ?_
          clear hS
          intro e w4 he
          obtain ⟨rfl, b4⟩ := he
          have hb4 := below_in hb3 b4
          have hA4 := hA3.below b4 hA3.lt
          have hB4 := hB3.below b4 hB3.lt
          have hX4 := hX3.below b4 hX3.lt
          simp only [Ex.val, Ex.op, Ex.col, Ex.v, Ex.A, Ex.n, Ex.cap]
          go_simp
          refine hK.out _ _ (⟨hA4, hB4⟩) (fun hS => ?_)
          clear hK K
          try simp only [Act.put, List.setIfInBounds_toArray, List.set_cons_zero, List.set_cons_succ]
          refine only_at (i := 5) rfl (by kernel_rfl) (by rfl) (fun K hK => ?_)
          go_simp
          have hY5 := At.fresh w4 26 #[.int .i64 0, .int .i64 0, .int .i64 0, .int .i64 0, .string ⟨#[]⟩, .slice none 0 0]
          have bx := below_box w4 (.cells #[.int .i64 0, .int .i64 0, .int .i64 0, .int .i64 0, .string ⟨#[]⟩, .slice none 0 0] 26)
          have hb5 := below_in hb4 bx
          have hA5 := hA4.below bx hA4.lt
          have hB5 := hB4.below bx hB4.lt
          have hX5 := hX4.below bx hX4.lt
          have hxy : ¬ gx = w4.heap.size := Nat.ne_of_lt hX4.lt
          refine hK.out _ _ (⟨hA5, hB5⟩) (fun hS => ?_)
          clear hK K
          try simp only [Act.put, List.setIfInBounds_toArray, List.set_cons_zero, List.set_cons_succ]
          have hagy : ¬ w.heap.size = w4.heap.size := Nat.ne_of_lt hA4.lt
          have hbgy : ¬ w.heap.size + 1 = w4.heap.size := Nat.ne_of_lt hB4.lt
          have hlgy : w.heap.size ≤ w4.heap.size := hb4.size
          generalize hg : w4.heap.size = gy at *
          generalize hw : w4.alloc (.cells #[.int .i64 0, .int .i64 0, .int .i64 0, .int .i64 0, .string ⟨#[]⟩, .slice none 0 0] 26) = w5 at *
          clear hw bx hg
          have fx := hX5.sixf
          obtain ⟨x0, x1, x2, x3, x4, x5⟩ := hX5.six
          obtain ⟨f0, f1, f2, f3, f4, f5⟩ := fx
          refine only_at (i := 6) rfl (by kernel_rfl) (by rfl) (fun K hK => ?_)
          go_simp
          clear x0 x1 x2 x3 x4 x5 f0 f1 f2 f3 f4 f5
          have hA6 := hA5.away6 hagx (.int .i64 1) (.int .i64 0) (.int .i64 k) (.int .i64 n) (.string ⟨t.toArray⟩) (.slice none 0 0)
          have hB6 := hB5.away6 hbgx (.int .i64 1) (.int .i64 0) (.int .i64 k) (.int .i64 n) (.string ⟨t.toArray⟩) (.slice none 0 0)
          have hY6 := hY5.away6 (Ne.symm hxy) (.int .i64 1) (.int .i64 0) (.int .i64 k) (.int .i64 n) (.string ⟨t.toArray⟩) (.slice none 0 0)
          have hX6 := hX5.put6 (.int .i64 1) (.int .i64 0) (.int .i64 k) (.int .i64 n) (.string ⟨t.toArray⟩) (.slice none 0 0)
          have hb6 := below_put6 hb5 hlgx (.int .i64 1) (.int .i64 0) (.int .i64 k) (.int .i64 n) (.string ⟨t.toArray⟩) (.slice none 0 0)
          refine hK.out _ _ (⟨hA6, hB6⟩) (fun hS => ?_)
          clear hK K
          try simp only [Act.put, List.setIfInBounds_toArray, List.set_cons_zero, List.set_cons_succ]
          generalize (((((w5.setCell ⟨gx, 0, none⟩ (.int .i64 1)).setCell ⟨gx, 1, none⟩ (.int .i64 0)).setCell ⟨gx, 2, none⟩ (.int .i64 k)).setCell ⟨gx, 3, none⟩ (.int .i64 n)).setCell ⟨gx, 4, none⟩ (.string ⟨t.toArray⟩)).setCell ⟨gx, 5, none⟩ (.slice none 0 0) = w6 at *
          have fx := hY6.sixf
          obtain ⟨x0, x1, x2, x3, x4, x5⟩ := hY6.six
          obtain ⟨f0, f1, f2, f3, f4, f5⟩ := fx
          refine only_at (i := 7) rfl (by kernel_rfl) (by rfl) (fun K hK => ?_)
          go_simp
          clear x0 x1 x2 x3 x4 x5 f0 f1 f2 f3 f4 f5
          have hA7 := hA6.away6 hagy (.int .i64 1) (.int .i64 0) (.int .i64 j) (.int .i64 m) (.string ⟨u.toArray⟩) (.slice none 0 0)
          have hB7 := hB6.away6 hbgy (.int .i64 1) (.int .i64 0) (.int .i64 j) (.int .i64 m) (.string ⟨u.toArray⟩) (.slice none 0 0)
          have hX7 := hX6.away6 hxy (.int .i64 1) (.int .i64 0) (.int .i64 j) (.int .i64 m) (.string ⟨u.toArray⟩) (.slice none 0 0)
          have hY7 := hY6.put6 (.int .i64 1) (.int .i64 0) (.int .i64 j) (.int .i64 m) (.string ⟨u.toArray⟩) (.slice none 0 0)
          have hb7 := below_put6 hb6 hlgy (.int .i64 1) (.int .i64 0) (.int .i64 j) (.int .i64 m) (.string ⟨u.toArray⟩) (.slice none 0 0)
          refine hK.out _ _ (⟨hA7, hB7⟩) (fun hS => ?_)
          clear hK K
          try simp only [Act.put, List.setIfInBounds_toArray, List.set_cons_zero, List.set_cons_succ]
          refine wpAnyH_done (by kernel_rfl) ?_ _
          clear hS
          go_wp2_with fail
          go_meet
          exact ⟨gx, gy, rfl, rfl, hX7, hY7, hb7⟩
        · go_simp
          have hY4 := At.fresh w3 26 #[.int .i64 0, .int .i64 0, .int .i64 0, .int .i64 0, .string ⟨#[]⟩, .slice none 0 0]
          have bx := below_box w3 (.cells #[.int .i64 0, .int .i64 0, .int .i64 0, .int .i64 0, .string ⟨#[]⟩, .slice none 0 0] 26)
          have hb4 := below_in hb3 bx
          have hA4 := hA3.below bx hA3.lt
          have hB4 := hB3.below bx hB3.lt
          have hX4 := hX3.below bx hX3.lt
          have hxy : ¬ gx = w3.heap.size := Nat.ne_of_lt hX3.lt
          refine hK.out _ _ (⟨hA4, hB4⟩) (fun hS => ?_)
          clear hK K
          try simp only [Act.put, List.setIfInBounds_toArray, List.set_cons_zero, List.set_cons_succ]
          have hagy : ¬ w.heap.size = w3.heap.size := Nat.ne_of_lt hA3.lt
          have hbgy : ¬ w.heap.size + 1 = w3.heap.size := Nat.ne_of_lt hB3.lt
          have hlgy : w.heap.size ≤ w3.heap.size := hb3.size
          generalize hg : w3.heap.size = gy at *
          generalize hw : w3.alloc (.cells #[.int .i64 0, .int .i64 0, .int .i64 0, .int .i64 0, .string ⟨#[]⟩, .slice none 0 0] 26) = w4 at *
          clear hw bx hg
          refine only_at (i := 3) rfl (by kernel_rfl) (by rfl) (fun K hK => ?_)
          go_simp
          refine (hly _).mono ?_
          clear hS
          intro e w5 he
          obtain ⟨rfl, b5⟩ := he
          have hb5 := below_in hb4 b5
          have hA5 := hA4.below b5 hA4.lt
          have hB5 := hB4.below b5 hB4.lt
          have hX5 := hX4.below b5 hX4.lt
          have hY5 := hY4.below b5 hY4.lt
          simp only [Ex.val, Ex.op, Ex.col, Ex.v, Ex.A, Ex.n, Ex.cap]
          go_simp
          refine hK.out _ _ (⟨hA5, hB5⟩) (fun hS => ?_)
          clear hK K
          try simp only [Act.put, List.setIfInBounds_toArray, List.set_cons_zero, List.set_cons_succ]
          have fx := hX5.sixf
          obtain ⟨x0, x1, x2, x3, x4, x5⟩ := hX5.six
          obtain ⟨f0, f1, f2, f3, f4, f5⟩ := fx
          refine only_at (i := 6) rfl (by kernel_rfl) (by rfl) (fun K hK => ?_)
          go_simp
          clear x0 x1 x2 x3 x4 x5 f0 f1 f2 f3 f4 f5
          have hA6 := hA5.away6 hagx (.int .i64 1) (.int .i64 0) (.int .i64 k) (.int .i64 n) (.string ⟨t.toArray⟩) (.slice none 0 0)
          have hB6 := hB5.away6 hbgx (.int .i64 1) (.int .i64 0) (.int .i64 k) (.int .i64 n) (.string ⟨t.toArray⟩) (.slice none 0 0)
          have hY6 := hY5.away6 (Ne.symm hxy) (.int .i64 1) (.int .i64 0) (.int .i64 k) (.int .i64 n) (.string ⟨t.toArray⟩) (.slice none 0 0)
          have hX6 := hX5.put6 (.int .i64 1) (.int .i64 0) (.int .i64 k) (.int .i64 n) (.string ⟨t.toArray⟩) (.slice none 0 0)
          have hb6 := below_put6 hb5 hlgx (.int .i64 1) (.int .i64 0) (.int .i64 k) (.int .i64 n) (.string ⟨t.toArray⟩) (.slice none 0 0)
          refine hK.out _ _ (⟨hA6, hB6⟩) (fun hS => ?_)
          clear hK K
          try simp only [Act.put, List.setIfInBounds_toArray, List.set_cons_zero, List.set_cons_succ]
          generalize (((((w5.setCell ⟨gx, 0, none⟩ (.int .i64 1)).setCell ⟨gx, 1, none⟩ (.int .i64 0)).setCell ⟨gx, 2, none⟩ (.int .i64 k)).setCell ⟨gx, 3, none⟩ (.int .i64 n)).setCell ⟨gx, 4, none⟩ (.string ⟨t.toArray⟩)).setCell ⟨gx, 5, none⟩ (.slice none 0 0) = w6 at *
          have fx := hY6.sixf
          obtain ⟨x0, x1, x2, x3, x4, x5⟩ := hY6.six
          obtain ⟨f0, f1, f2, f3, f4, f5⟩ := fx
          refine only_at (i := 7) rfl (by kernel_rfl) (by rfl) (fun K hK => ?_)
          go_simp
          clear x0 x1 x2 x3 x4 x5 f0 f1 f2 f3 f4 f5
          have hA7 := hA6.away6 hagy (.int .i64 1) (.int .i64 0) (.int .i64 j) (.int .i64 m) (.string ⟨u.toArray⟩) (.slice none 0 0)
          have hB7 := hB6.away6 hbgy (.int .i64 1) (.int .i64 0) (.int .i64 j) (.int .i64 m) (.string ⟨u.toArray⟩) (.slice none 0 0)
          have hX7 := hX6.away6 hxy (.int .i64 1) (.int .i64 0) (.int .i64 j) (.int .i64 m) (.string ⟨u.toArray⟩) (.slice none 0 0)
          have hY7 := hY6.put6 (.int .i64 1) (.int .i64 0) (.int .i64 j) (.int .i64 m) (.string ⟨u.toArray⟩) (.slice none 0 0)
          have hb7 := below_put6 hb6 hlgy (.int .i64 1) (.int .i64 0) (.int .i64 j) (.int .i64 m) (.string ⟨u.toArray⟩) (.slice none 0 0)
          refine hK.out _ _ (⟨hA7, hB7⟩) (fun hS => ?_)
          clear hK K
          try simp only [Act.put, List.setIfInBounds_toArray, List.set_cons_zero, List.set_cons_succ]
          refine wpAnyH_done (by kernel_rfl) ?_ _
          clear hS
          go_wp2_with fail
          go_meet
          exact ⟨gx, gy, rfl, rfl, hX7, hY7, hb7⟩
      · go_simp
        have hY3 := At.fresh w2 26 #[.int .i64 0, .int .i64 0, .int .i64 0, .int .i64 0, .string ⟨#[]⟩, .slice none 0 0]
        have bx := below_box w2 (.cells #[.int .i64 0, .int .i64 0, .int .i64 0, .int .i64 0, .string ⟨#[]⟩, .slice none 0 0] 26)
        have hb3 := below_in hb2 bx
        have hA3 := hA2.below bx hA2.lt
        have hB3 := hB2.below bx hB2.lt
        have hX3 := hX2.below bx hX2.lt
        have hxy : ¬ gx = w2.heap.size := Nat.ne_of_lt hX2.lt
        refine hK.out _ _ (⟨hA3, hB3⟩) (fun hS => ?_)
        clear hK K
        try simp only [Act.put, List.setIfInBounds_toArray, List.set_cons_zero, List.set_cons_succ]
        have hagy : ¬ w.heap.size = w2.heap.size := Nat.ne_of_lt hA2.lt
        have hbgy : ¬ w.heap.size + 1 = w2.heap.size := Nat.ne_of_lt hB2.lt
        have hlgy : w.heap.size ≤ w2.heap.size := hb2.size
        generalize hg : w2.heap.size = gy at *
        generalize hw : w2.alloc (.cells #[.int .i64 0, .int .i64 0, .int .i64 0, .int .i64 0, .string ⟨#[]⟩, .slice none 0 0] 26) = w3 at *
        clear hw bx hg
        refine only_at (i := 1) rfl (by kernel_rfl) (by rfl) (fun K hK => ?_)
        go_simp
        refine (hlx _).mono ?_
        clear hS
        intro e w4 he
        obtain ⟨rfl, b4⟩ := he
        have hb4 := below_in hb3 b4
        have hA4 := hA3.below b4 hA3.lt
        have hB4 := hB3.below b4 hB3.lt
        have hX4 := hX3.below b4 hX3.lt
        have hY4 := hY3.below b4 hY3.lt
        simp only [Ex.val, Ex.op, Ex.col, Ex.v, Ex.A, Ex.n, Ex.cap]
        go_simp
        refine hK.out _ _ (⟨hA4, hB4⟩) (fun hS => ?_)
        clear hK K
        try simp only [Act.put, List.setIfInBounds_toArray, List.set_cons_zero, List.set_cons_succ]
        refine only_at (i := 3) rfl (by kernel_rfl) (by rfl) (fun K hK => ?_)
        go_simp
        refine (hly _).mono ?_
        clear hS
        intro e w5 he
        obtain ⟨rfl, b5⟩ := he
        have hb5 := below_in hb4 b5
        have hA5 := hA4.below b5 hA4.lt
        have hB5 := hB4.below b5 hB4.lt
        have hX5 := hX4.below b5 hX4.lt
        have hY5 := hY4.below b5 hY4.lt
        simp only [Ex.val, Ex.op, Ex.col, Ex.v, Ex.A, Ex.n, Ex.cap]
        go_simp
        refine hK.out _ _ (⟨hA5, hB5⟩) (fun hS => ?_)
        clear hK K
        try simp only [Act.put, List.setIfInBounds_toArray, List.set_cons_zero, List.set_cons_succ]
        have fx := hX5.sixf
        obtain ⟨x0, x1, x2, x3, x4, x5⟩ := hX5.six
        obtain ⟨f0, f1, f2, f3, f4, f5⟩ := fx
        refine only_at (i := 6) rfl (by kernel_rfl) (by rfl) (fun K hK => ?_)
        go_simp
        clear x0 x1 x2 x3 x4 x5 f0 f1 f2 f3 f4 f5
        have hA6 := hA5.away6 hagx (.int .i64 1) (.int .i64 0) (.int .i64 k) (.int .i64 n) (.string ⟨t.toArray⟩) (.slice none 0 0)
        have hB6 := hB5.away6 hbgx (.int .i64 1) (.int .i64 0) (.int .i64 k) (.int .i64 n) (.string ⟨t.toArray⟩) (.slice none 0 0)
        have hY6 := hY5.away6 (Ne.symm hxy) (.int .i64 1) (.int .i64 0) (.int .i64 k) (.int .i64 n) (.string ⟨t.toArray⟩) (.slice none 0 0)
        have hX6 := hX5.put6 (.int .i64 1) (.int .i64 0) (.int .i64 k) (.int .i64 n) (.string ⟨t.toArray⟩) (.slice none 0 0)
        have hb6 := below_put6 hb5 hlgx (.int .i64 1) (.int .i64 0) (.int .i64 k) (.int .i64 n) (.string ⟨t.toArray⟩) (.slice none 0 0)
        refine hK.out _ _ (⟨hA6, hB6⟩) (fun hS => ?_)
        clear hK K
        try simp only [Act.put, List.setIfInBounds_toArray, List.set_cons_zero, List.set_cons_succ]
        generalize (((((w5.setCell ⟨gx, 0, none⟩ (.int .i64 1)).setCell ⟨gx, 1, none⟩ (.int .i64 0)).setCell ⟨gx, 2, none⟩ (.int .i64 k)).setCell ⟨gx, 3, none⟩ (.int .i64 n)).setCell ⟨gx, 4, none⟩ (.string ⟨t.toArray⟩)).setCell ⟨gx, 5, none⟩ (.slice none 0 0) = w6 at *
        have fx := hY6.sixf
        obtain ⟨x0, x1, x2, x3, x4, x5⟩ := hY6.six
        obtain ⟨f0, f1, f2, f3, f4, f5⟩ := fx
        refine only_at (i := 7) rfl (by kernel_rfl) (by rfl) (fun K hK => ?_)
        go_simp
        clear x0 x1 x2 x3 x4 x5 f0 f1 f2 f3 f4 f5
        have hA7 := hA6.away6 hagy (.int .i64 1) (.int .i64 0) (.int .i64 j) (.int .i64 m) (.string ⟨u.toArray⟩) (.slice none 0 0)
        have hB7 := hB6.away6 hbgy (.int .i64 1) (.int .i64 0) (.int .i64 j) (.int .i64 m) (.string ⟨u.toArray⟩) (.slice none 0 0)
        have hX7 := hX6.away6 hxy (.int .i64 1) (.int .i64 0) (.int .i64 j) (.int .i64 m) (.string ⟨u.toArray⟩) (.slice none 0 0)
        have hY7 := hY6.put6 (.int .i64 1) (.int .i64 0) (.int .i64 j) (.int .i64 m) (.string ⟨u.toArray⟩) (.slice none 0 0)
        have hb7 := below_put6 hb6 hlgy (.int .i64 1) (.int .i64 0) (.int .i64 j) (.int .i64 m) (.string ⟨u.toArray⟩) (.slice none 0 0)
        refine hK.out _ _ (⟨hA7, hB7⟩) (fun hS => ?_)
        clear hK K
        try simp only [Act.put, List.setIfInBounds_toArray, List.set_cons_zero, List.set_cons_succ]
        refine wpAnyH_done (by kernel_rfl) ?_ _
        clear hS
        go_wp2_with fail
        go_meet
        exact ⟨gx, gy, rfl, rfl, hX7, hY7, hb7⟩
    · go_simp
      have hY2 := At.fresh w1 26 #[.int .i64 0, .int .i64 0, .int .i64 0, .int .i64 0, .string ⟨#[]⟩, .slice none 0 0]
      have bx := below_box w1 (.cells #[.int .i64 0, .int .i64 0, .int .i64 0, .int .i64 0, .string ⟨#[]⟩, .slice none 0 0] 26)
      have hb2 := below_in hb1 bx
      have hA2 := hA1.below bx hA1.lt
      have hB2 := hB1.below bx hB1.lt
      refine hK.out _ _ (⟨hA2, hB2⟩) (fun hS => ?_)
      clear hK K
      try simp only [Act.put, List.setIfInBounds_toArray, List.set_cons_zero, List.set_cons_succ]
      have hagy : ¬ w.heap.size = w1.heap.size := Nat.ne_of_lt hA1.lt
      have hbgy : ¬ w.heap.size + 1 = w1.heap.size := Nat.ne_of_lt hB1.lt
      have hlgy : w.heap.size ≤ w1.heap.size := hb1.size
      generalize hg : w1.heap.size = gy at *
      generalize hw : w1.alloc (.cells #[.int .i64 0, .int .i64 0, .int .i64 0, .int .i64 0, .string ⟨#[]⟩, .slice none 0 0] 26) = w2 at *
      clear hw bx hg
      refine two_at (i := 1) (j := 4) rfl rfl (by kernel_rfl) (by rfl) (by rfl) (fun K hK => ?_) (fun K hK => ?_)
      · go_simp
        refine (hlx _).mono ?_
        clear hS
        intro e w3 he
        obtain ⟨rfl, b3⟩ := he
        have hb3 := below_in hb2 b3
        have hA3 := hA2.below b3 hA2.lt
        have hB3 := hB2.below b3 hB2.lt
        have hY3 := hY2.below b3 hY2.lt
        simp only [Ex.val, Ex.op, Ex.col, Ex.v, Ex.A, Ex.n, Ex.cap]
        go_simp
        refine hK.out _ _ (⟨hA3, hB3⟩) (fun hS => ?_)
        clear hK K
        try simp only [Act.put, List.setIfInBounds_toArray, List.set_cons_zero, List.set_cons_succ]
        refine two_at (i := 3) (j := 4) rfl rfl (by kernel_rfl) (by rfl) (by rfl) (fun K hK => ?_) (fun K hK => ?_)
        · go_simp
          refine (hly _).mono ?_
          clear hS
          intro e w4 he
          obtain ⟨rfl, b4⟩ := he
          have hb4 := below_in hb3 b4
          have hA4 := hA3.below b4 hA3.lt
          have hB4 := hB3.below b4 hB3.lt
          have hY4 := hY3.below b4 hY3.lt
          simp only [Ex.val, Ex.op, Ex.col, Ex.v, Ex.A, Ex.n, Ex.cap]
          go_simp
          refine hK.out _ _ (⟨hA4, hB4⟩) (fun hS => ?_)
          clear hK K
          try simp only [Act.put, List.setIfInBounds_toArray, List.set_cons_zero, List.set_cons_succ]
          refine only_at (i := 4) rfl (by kernel_rfl) (by rfl) (fun K hK => ?_)
          go_simp
          have hX5 := At.fresh w4 26 #[.int .i64 0, .int .i64 0, .int .i64 0, .int .i64 0, .string ⟨#[]⟩, .slice none 0 0]
          have bx := below_box w4 (.cells #[.int .i64 0, .int .i64 0, .int .i64 0, .int .i64 0, .string ⟨#[]⟩, .slice none 0 0] 26)
          have hb5 := below_in hb4 bx
          have hA5 := hA4.below bx hA4.lt
          have hB5 := hB4.below bx hB4.lt
          have hY5 := hY4.below bx hY4.lt
          have hxy : ¬ w4.heap.size = gy := Nat.ne_of_gt hY4.lt
          refine hK.out _ _ (⟨hA5, hB5⟩) (fun hS => ?_)
          clear hK K
          try simp only [Act.put, List.setIfInBounds_toArray, List.set_cons_zero, List.set_cons_succ]
          have hagx : ¬ w.heap.size = w4.heap.size := Nat.ne_of_lt hA4.lt
          have hbgx : ¬ w.heap.size + 1 = w4.heap.size := Nat.ne_of_lt hB4.lt
          have hlgx : w.heap.size ≤ w4.heap.size := hb4.size
          generalize hg : w4.heap.size = gx at *
          generalize hw : w4.alloc (.cells #[.int .i64 0, .int .i64 0, .int .i64 0, .int .i64 0, .string ⟨#[]⟩, .slice none 0 0] 26) = w5 at *
          clear hw bx hg
          have fx := hX5.sixf
          obtain ⟨x0, x1, x2, x3, x4, x5⟩ := hX5.six
          obtain ⟨f0, f1, f2, f3, f4, f5⟩ := fx
          refine only_at (i := 6) rfl (by kernel_rfl) (by rfl) (fun K hK => ?_)
          go_simp
          clear x0 x1 x2 x3 x4 x5 f0 f1 f2 f3 f4 f5
          have hA6 := hA5.away6 hagx (.int .i64 1) (.int .i64 0) (.int .i64 k) (.int .i64 n) (.string ⟨t.toArray⟩) (.slice none 0 0)
          have hB6 := hB5.away6 hbgx (.int .i64 1) (.int .i64 0) (.int .i64 k) (.int .i64 n) (.string ⟨t.toArray⟩) (.slice none 0 0)
          have hY6 := hY5.away6 (Ne.symm hxy) (.int .i64 1) (.int .i64 0) (.int .i64 k) (.int .i64 n) (.string ⟨t.toArray⟩) (.slice none 0 0)
          have hX6 := hX5.put6 (.int .i64 1) (.int .i64 0) (.int .i64 k) (.int .i64 n) (.string ⟨t.toArray⟩) (.slice none 0 0)
          have hb6 := below_put6 hb5 hlgx (.int .i64 1) (.int .i64 0) (.int .i64 k) (.int .i64 n) (.string ⟨t.toArray⟩) (.slice none 0 0)
          refine hK.out _ _ (⟨hA6, hB6⟩) (fun hS => ?_)
          clear hK K
          try simp only [Act.put, List.setIfInBounds_toArray, List.set_cons_zero, List.set_cons_succ]
          generalize (((((w5.setCell ⟨gx, 0, none⟩ (.int .i64 1)).setCell ⟨gx, 1, none⟩ (.int .i64 0)).setCell ⟨gx, 2, none⟩ (.int .i64 k)).setCell ⟨gx, 3, none⟩ (.int .i64 n)).setCell ⟨gx, 4, none⟩ (.string ⟨t.toArray⟩)).setCell ⟨gx, 5, none⟩ (.slice none 0 0) = w6 at *
          have fx := hY6.sixf
          obtain ⟨x0, x1, x2, x3, x4, x5⟩ := hY6.six
          obtain ⟨f0, f1, f2, f3, f4, f5⟩ := fx
          refine only_at (i := 7) rfl (by kernel_rfl) (by rfl) (fun K hK => ?_)
          go_simp
          clear x0 x1 x2 x3 x4 x5 f0 f1 f2 f3 f4 f5
          have hA7 := hA6.away6 hagy (.int .i64 1) (.int .i64 0) (.int .i64 j) (.int .i64 m) (.string ⟨u.toArray⟩) (.slice none 0 0)
          have hB7 := hB6.away6 hbgy (.int .i64 1) (.int .i64 0) (.int .i64 j) (.int .i64 m) (.string ⟨u.toArray⟩) (.slice none 0 0)
          have hX7 := hX6.away6 hxy (.int .i64 1) (.int .i64 0) (.int .i64 j) (.int .i64 m) (.string ⟨u.toArray⟩) (.slice none 0 0)
          have hY7 := hY6.put6 (.int .i64 1) (.int .i64 0) (.int .i64 j) (.int .i64 m) (.string ⟨u.toArray⟩) (.slice none 0 0)
          have hb7 := below_put6 hb6 hlgy (.int .i64 1) (.int .i64 0) (.int .i64 j) (.int .i64 m) (.string ⟨u.toArray⟩) (.slice none 0 0)
          refine hK.out _ _ (⟨hA7, hB7⟩) (fun hS => ?_)
          clear hK K
          try simp only [Act.put, List.setIfInBounds_toArray, List.set_cons_zero, List.set_cons_succ]
          refine wpAnyH_done (by kernel_rfl) ?_ _
          clear hS
          go_wp2_with fail
          go_meet
          exact ⟨gx, gy, rfl, rfl, hX7, hY7, hb7⟩
        · go_simp
          have hX4 := At.fresh w3 26 #[.int .i64 0, .int .i64 0, .int .i64 0, .int .i64 0, .string ⟨#[]⟩, .slice none 0 0]
          have bx := below_box w3 (.cells #[.int .i64 0, .int .i64 0, .int .i64 0, .int .i64 0, .string ⟨#[]⟩, .slice none 0 0] 26)
          have hb4 := below_in hb3 bx
          have hA4 := hA3.below bx hA3.lt
          have hB4 := hB3.below bx hB3.lt
          have hY4 := hY3.below bx hY3.lt
          have hxy : ¬ w3.heap.size = gy := Nat.ne_of_gt hY3.lt
          refine hK.out _ _ (⟨hA4, hB4⟩) (fun hS => ?_)
          clear hK K
          try simp only [Act.put, List.setIfInBounds_toArray, List.set_cons_zero, List.set_cons_succ]
          have hagx : ¬ w.heap.size = w3.heap.size := Nat.ne_of_lt hA3.lt
          have hbgx : ¬ w.heap.size + 1 = w3.heap.size := Nat.ne_of_lt hB3.lt
          have hlgx : w.heap.size ≤ w3.heap.size := hb3.size
          generalize hg : w3.heap.size = gx at *
          generalize hw : w3.alloc (.cells #[.int .i64 0, .int .i64 0, .int .i64 0, .int .i64 0, .string ⟨#[]⟩, .slice none 0 0] 26) = w4 at *
          clear hw bx hg
          refine only_at (i := 3) rfl (by kernel_rfl) (by rfl) (fun K hK => ?_)
          go_simp
          refine (hly _).mono ?_
          clear hS
          intro e w5 he
          obtain ⟨rfl, b5⟩ := he
          have hb5 := below_in hb4 b5
          have hA5 := hA4.below b5 hA4.lt
          have hB5 := hB4.below b5 hB4.lt
          have hX5 := hX4.below b5 hX4.lt
          have hY5 := hY4.below b5 hY4.lt
          simp only [Ex.val, Ex.op, Ex.col, Ex.v, Ex.A, Ex.n, Ex.cap]
          go_simp
          refine hK.out _ _ (⟨hA5, hB5⟩) (fun hS => ?_)
          clear hK K
          try simp only [Act.put, List.setIfInBounds_toArray, List.set_cons_zero, List.set_cons_succ]
          have fx := hX5.sixf
          obtain ⟨x0, x1, x2, x3, x4, x5⟩ := hX5.six
          obtain ⟨f0, f1, f2, f3, f4, f5⟩ := fx
          refine only_at (i := 6) rfl (by kernel_rfl) (by rfl) (fun K hK => ?_)
          go_simp
          clear x0 x1 x2 x3 x4 x5 f0 f1 f2 f3 f4 f5
          have hA6 := hA5.away6 hagx (.int .i64 1) (.int .i64 0) (.int .i64 k) (.int .i64 n) (.string ⟨t.toArray⟩) (.slice none 0 0)
          have hB6 := hB5.away6 hbgx (.int .i64 1) (.int .i64 0) (.int .i64 k) (.int .i64 n) (.string ⟨t.toArray⟩) (.slice none 0 0)
          have hY6 := hY5.away6 (Ne.symm hxy) (.int .i64 1) (.int .i64 0) (.int .i64 k) (.int .i64 n) (.string ⟨t.toArray⟩) (.slice none 0 0)
          have hX6 := hX5.put6 (.int .i64 1) (.int .i64 0) (.int .i64 k) (.int .i64 n) (.string ⟨t.toArray⟩) (.slice none 0 0)
          have hb6 := below_put6 hb5 hlgx (.int .i64 1) (.int .i64 0) (.int .i64 k) (.int .i64 n) (.string ⟨t.toArray⟩) (.slice none 0 0)
          refine hK.out _ _ (⟨hA6, hB6⟩) (fun hS => ?_)
          clear hK K
          try simp only [Act.put, List.setIfInBounds_toArray, List.set_cons_zero, List.set_cons_succ]
          generalize (((((w5.setCell ⟨gx, 0, none⟩ (.int .i64 1)).setCell ⟨gx, 1, none⟩ (.int .i64 0)).setCell ⟨gx, 2, none⟩ (.int .i64 k)).setCell ⟨gx, 3, none⟩ (.int .i64 n)).setCell ⟨gx, 4, none⟩ (.string ⟨t.toArray⟩)).setCell ⟨gx, 5, none⟩ (.slice none 0 0) = w6 at *
          have fx := hY6.sixf
          obtain ⟨x0, x1, x2, x3, x4, x5⟩ := hY6.six
          obtain ⟨f0, f1, f2, f3, f4, f5⟩ := fx
          refine only_at (i := 7) rfl (by kernel_rfl) (by rfl) (fun K hK => ?_)
          go_simp
          clear x0 x1 x2 x3 x4 x5 f0 f1 f2 f3 f4 f5
          have hA7 := hA6.away6 hagy (.int .i64 1) (.int .i64 0) (.int .i64 j) (.int .i64 m) (.string ⟨u.toArray⟩) (.slice none 0 0)
          have hB7 := hB6.away6 hbgy (.int .i64 1) (.int .i64 0) (.int .i64 j) (.int .i64 m) (.string ⟨u.toArray⟩) (.slice none 0 0)
          have hX7 := hX6.away6 hxy (.int .i64 1) (.int .i64 0) (.int .i64 j) (.int .i64 m) (.string ⟨u.toArray⟩) (.slice none 0 0)
          have hY7 := hY6.put6 (.int .i64 1) (.int .i64 0) (.int .i64 j) (.int .i64 m) (.string ⟨u.toArray⟩) (.slice none 0 0)
          have hb7 := below_put6 hb6 hlgy (.int .i64 1) (.int .i64 0) (.int .i64 j) (.int .i64 m) (.string ⟨u.toArray⟩) (.slice none 0 0)
          refine hK.out _ _ (⟨hA7, hB7⟩) (fun hS => ?_)
          clear hK K
          try simp only [Act.put, List.setIfInBounds_toArray, List.set_cons_zero, List.set_cons_succ]
          refine wpAnyH_done (by kernel_rfl) ?_ _
          clear hS
          go_wp2_with fail
          go_meet
          exact ⟨gx, gy, rfl, rfl, hX7, hY7, hb7⟩
      · go_simp
        have hX3 := At.fresh w2 26 #[.int .i64 0, .int .i64 0, .int .i64 0, .int .i64 0, .string ⟨#[]⟩, .slice none 0 0]
        have bx := below_box w2 (.cells #[.int .i64 0, .int .i64 0, .int .i64 0, .int .i64 0, .string ⟨#[]⟩, .slice none 0 0] 26)
        have hb3 := below_in hb2 bx
        have hA3 := hA2.below bx hA2.lt
        have hB3 := hB2.below bx hB2.lt
        have hY3 := hY2.below bx hY2.lt
        have hxy : ¬ w2.heap.size = gy := Nat.ne_of_gt hY2.lt
        refine hK.out _ _ (⟨hA3, hB3⟩) (fun hS => ?_)
        clear hK K
        try simp only [Act.put, List.setIfInBounds_toArray, List.set_cons_zero, List.set_cons_succ]
        have hagx : ¬ w.heap.size = w2.heap.size := Nat.ne_of_lt hA2.lt
        have hbgx : ¬ w.heap.size + 1 = w2.heap.size := Nat.ne_of_lt hB2.lt
        have hlgx : w.heap.size ≤ w2.heap.size := hb2.size
        generalize hg : w2.heap.size = gx at *
        generalize hw : w2.alloc (.cells #[.int .i64 0, .int .i64 0, .int .i64 0, .int .i64 0, .string ⟨#[]⟩, .slice none 0 0] 26) = w3 at *
        clear hw bx hg
        refine only_at (i := 1) rfl (by kernel_rfl) (by rfl) (fun K hK => ?_)
        go_simp
        refine (hlx _).mono ?_
        clear hS
        intro e w4 he
        obtain ⟨rfl, b4⟩ := he
        have hb4 := below_in hb3 b4
        have hA4 := hA3.below b4 hA3.lt
        have hB4 := hB3.below b4 hB3.lt
        have hX4 := hX3.below b4 hX3.lt
        have hY4 := hY3.below b4 hY3.lt
        simp only [Ex.val, Ex.op, Ex.col, Ex.v, Ex.A, Ex.n, Ex.cap]
        go_simp
        refine hK.out _ _ (⟨hA4, hB4⟩) (fun hS => ?_)
        clear hK K
        try simp only [Act.put, List.setIfInBounds_toArray, List.set_cons_zero, List.set_cons_succ]
        refine only_at (i := 3) rfl (by kernel_rfl) (by rfl) (fun K hK => ?_)
        go_simp
        refine (hly _).mono ?_
        clear hS
        intro e w5 he
        obtain ⟨rfl, b5⟩ := he
        have hb5 := below_in hb4 b5
        have hA5 := hA4.below b5 hA4.lt
        have hB5 := hB4.below b5 hB4.lt
        have hX5 := hX4.below b5 hX4.lt
        have hY5 := hY4.below b5 hY4.lt
        simp only [Ex.val, Ex.op, Ex.col, Ex.v, Ex.A, Ex.n, Ex.cap]
        go_simp
        refine hK.out _ _ (⟨hA5, hB5⟩) (fun hS => ?_)
        clear hK K
        try simp only [Act.put, List.setIfInBounds_toArray, List.set_cons_zero, List.set_cons_succ]
        have fx := hX5.sixf
        obtain ⟨x0, x1, x2, x3, x4, x5⟩ := hX5.six
        obtain ⟨f0, f1, f2, f3, f4, f5⟩ := fx
        refine only_at (i := 6) rfl (by kernel_rfl) (by rfl) (fun K hK => ?_)
        go_simp
        clear x0 x1 x2 x3 x4 x5 f0 f1 f2 f3 f4 f5
        have hA6 := hA5.away6 hagx (.int .i64 1) (.int .i64 0) (.int .i64 k) (.int .i64 n) (.string ⟨t.toArray⟩) (.slice none 0 0)
        have hB6 := hB5.away6 hbgx (.int .i64 1) (.int .i64 0) (.int .i64 k) (.int .i64 n) (.string ⟨t.toArray⟩) (.slice none 0 0)
        have hY6 := hY5.away6 (Ne.symm hxy) (.int .i64 1) (.int .i64 0) (.int .i64 k) (.int .i64 n) (.string ⟨t.toArray⟩) (.slice none 0 0)
        have hX6 := hX5.put6 (.int .i64 1) (.int .i64 0) (.int .i64 k) (.int .i64 n) (.string ⟨t.toArray⟩) (.slice none 0 0)
        have hb6 := below_put6 hb5 hlgx (.int .i64 1) (.int .i64 0) (.int .i64 k) (.int .i64 n) (.string ⟨t.toArray⟩) (.slice none 0 0)
        refine hK.out _ _ (⟨hA6, hB6⟩) (fun hS => ?_)
        clear hK K
        try simp only [Act.put, List.setIfInBounds_toArray, List.set_cons_zero, List.set_cons_succ]
        generalize (((((w5.setCell ⟨gx, 0, none⟩ (.int .i64 1)).setCell ⟨gx, 1, none⟩ (.int .i64 0)).setCell ⟨gx, 2, none⟩ (.int .i64 k)).setCell ⟨gx, 3, none⟩ (.int .i64 n)).setCell ⟨gx, 4, none⟩ (.string ⟨t.toArray⟩)).setCell ⟨gx, 5, none⟩ (.slice none 0 0) = w6 at *
        have fx := hY6.sixf
        obtain ⟨x0, x1, x2, x3, x4, x5⟩ := hY6.six
        obtain ⟨f0, f1, f2, f3, f4, f5⟩ := fx
        refine only_at (i := 7) rfl (by kernel_rfl) (by rfl) (fun K hK => ?_)
        go_simp
        clear x0 x1 x2 x3 x4 x5 f0 f1 f2 f3 f4 f5
        have hA7 := hA6.away6 hagy (.int .i64 1) (.int .i64 0) (.int .i64 j) (.int .i64 m) (.string ⟨u.toArray⟩) (.slice none 0 0)
        have hB7 := hB6.away6 hbgy (.int .i64 1) (.int .i64 0) (.int .i64 j) (.int .i64 m) (.string ⟨u.toArray⟩) (.slice none 0 0)
        have hX7 := hX6.away6 hxy (.int .i64 1) (.int .i64 0) (.int .i64 j) (.int .i64 m) (.string ⟨u.toArray⟩) (.slice none 0 0)
        have hY7 := hY6.put6 (.int .i64 1) (.int .i64 0) (.int .i64 j) (.int .i64 m) (.string ⟨u.toArray⟩) (.slice none 0 0)
        have hb7 := below_put6 hb6 hlgy (.int .i64 1) (.int .i64 0) (.int .i64 j) (.int .i64 m) (.string ⟨u.toArray⟩) (.slice none 0 0)
        refine hK.out _ _ (⟨hA7, hB7⟩) (fun hS => ?_)
        clear hK K
        try simp only [Act.put, List.setIfInBounds_toArray, List.set_cons_zero, List.set_cons_succ]
        refine wpAnyH_done (by kernel_rfl) ?_ _
        clear hS
        go_wp2_with fail
        go_meet
        exact ⟨gx, gy, rfl, rfl, hX7, hY7, hb7⟩
  case rest =>
    obtain ⟨gx, gy, rfl, rfl, hX, hY, hbc⟩ := hcut
    obtain ⟨r0, r1, p0, p1, e1, e2, e3, e4⟩ := logic_facts ⟨k, n, t⟩ ⟨j, m, u⟩ (by simp only; omega) (by simp only; omega)
    clear hlx hly hA0 hA1 hB1 hb1
    obtain ⟨x0, x1, x2, x3, x4, x5⟩ := hX.six
    obtain ⟨y0, y1, y2, y3, y4, y5⟩ := hY.six
    have hxl := hX.lt
    have hyl := hY.lt
    have nx : ¬ gx = wc.heap.size := by omega
    have ny : ¬ gy = wc.heap.size := by omega
    go_upto_region 6 with fail
    go_cut [7] (fun p wx => ∃ gn b1 b2, p = .pointer (some ⟨gn, 0, none⟩) ∧ At wx gn 41 #[.int .i64 7, .int .i64 0, .int .i64 0, .int .i64 0, .string ⟨#[]⟩, .slice (some ⟨b1, 0, none⟩) 1 1, .int .i64 7, .int .i64 0, .int .i64 0, .int .i64 0, .string ⟨#[]⟩, .slice (some ⟨b2, 0, none⟩) 1 1] ∧
      At wx b1 26 #[.int .i64 1, .int .i64 0, .int .i64 k, .int .i64 n, .string ⟨t.toArray⟩, .slice none 0 0] ∧ At wx b2 26 #[.int .i64 1, .int .i64 0, .int .i64 j, .int .i64 m, .string ⟨u.toArray⟩, .slice none 0 0] ∧ Below wc.heap.size wc wx)
    case first =>
      go_wp2_with fail
      go_meet
      refine ⟨_, wc.heap.size, wc.heap.size + 1, rfl, ?_⟩
      have bx := below_box wc (.cells #[.int .i64 1, .int .i64 0, .int .i64 k, .int .i64 n, .string ⟨t.toArray⟩, .slice none 0 0] 26)
      have h1 := At.fresh wc 26 #[.int .i64 1, .int .i64 0, .int .i64 k, .int .i64 n, .string ⟨t.toArray⟩, .slice none 0 0]
      have hs1 : (wc.alloc (.cells #[.int .i64 1, .int .i64 0, .int .i64 k, .int .i64 n, .string ⟨t.toArray⟩, .slice none 0 0] 26)).heap.size = wc.heap.size + 1 := by simp
      generalize wc.alloc (.cells #[.int .i64 1, .int .i64 0, .int .i64 k, .int .i64 n, .string ⟨t.toArray⟩, .slice none 0 0] 26) = v1 at *
      rw [← hs1]
      have by1 := below_box v1 (.cells #[.int .i64 1, .int .i64 0, .int .i64 j, .int .i64 m, .string ⟨u.toArray⟩, .slice none 0 0] 26)
      have h2 := At.fresh v1 26 #[.int .i64 1, .int .i64 0, .int .i64 j, .int .i64 m, .string ⟨u.toArray⟩, .slice none 0 0]
      have hs2 : (v1.alloc (.cells #[.int .i64 1, .int .i64 0, .int .i64 j, .int .i64 m, .string ⟨u.toArray⟩, .slice none 0 0] 26)).heap.size = v1.heap.size + 1 := by simp
      generalize v1.alloc (.cells #[.int .i64 1, .int .i64 0, .int .i64 j, .int .i64 m, .string ⟨u.toArray⟩, .slice none 0 0] 26) = v2 at *
      rw [← hs2]
      have h1 := h1.below by1 h1.lt
      have bz := fun cs => below_box v2 (.cells cs 41)
      exact ⟨At.fresh v2 _ _, h1.below (bz _) h1.lt, h2.below (bz _) h2.lt, below_in bx (below_in by1 (bz _))⟩
    case rest =>
    obtain ⟨gn, b1, b2, rfl, hN, hB1, hB2, hbn⟩ := hcut
    replace hX := hX.below hbn hxl
    replace hY := hY.below hbn hyl
    replace hbc := below_in hbc hbn
    clear x0 x1 x2 x3 x4 x5 y0 y1 y2 y3 y4 y5 nx ny hxl hyl hbn
    obtain ⟨x0, x1, x2, x3, x4, x5⟩ := hX.six
    obtain ⟨y0, y1, y2, y3, y4, y5⟩ := hY.six
    have hxl := hX.lt
    have hyl := hY.lt
    have hnl := hN.lt
    have h1l := hB1.lt
    have h2l := hB2.lt
    have nx : ¬ gx = wc.heap.size := by omega
    have ny : ¬ gy = wc.heap.size := by omega
    go_upto_region 7 with fail
    go_cut [8] (fun p wx => ∃ ga gs, p = .pointer (some ⟨ga, 0, none⟩) ∧ At wx ga 26 #[.int .i64 5, .int .i64 0, .int .i64 0, .int .i64 0, .string ⟨#[]⟩, .slice (some ⟨gs, 0, none⟩) 2 2] ∧
      At wx gs 26 #[.int .i64 1, .int .i64 0, .int .i64 k, .int .i64 n, .string ⟨t.toArray⟩, .slice none 0 0, .int .i64 1, .int .i64 0, .int .i64 j, .int .i64 m, .string ⟨u.toArray⟩, .slice none 0 0] ∧ Below wc.heap.size wc wx)
    case first =>
      go_wp2_with fail
      go_meet
      refine ⟨_, wc.heap.size, rfl, ?_⟩
      have bx := below_box wc (.cells #[.int .i64 1, .int .i64 0, .int .i64 k, .int .i64 n, .string ⟨t.toArray⟩, .slice none 0 0, .int .i64 1, .int .i64 0, .int .i64 j, .int .i64 m, .string ⟨u.toArray⟩, .slice none 0 0] 26)
      have h1 := At.fresh wc 26 #[.int .i64 1, .int .i64 0, .int .i64 k, .int .i64 n, .string ⟨t.toArray⟩, .slice none 0 0, .int .i64 1, .int .i64 0, .int .i64 j, .int .i64 m, .string ⟨u.toArray⟩, .slice none 0 0]
      have hs1 : (wc.alloc (.cells #[.int .i64 1, .int .i64 0, .int .i64 k, .int .i64 n, .string ⟨t.toArray⟩, .slice none 0 0, .int .i64 1, .int .i64 0, .int .i64 j, .int .i64 m, .string ⟨u.toArray⟩, .slice none 0 0] 26)).heap.size = wc.heap.size + 1 := by simp
      generalize wc.alloc (.cells #[.int .i64 1, .int .i64 0, .int .i64 k, .int .i64 n, .string ⟨t.toArray⟩, .slice none 0 0, .int .i64 1, .int .i64 0, .int .i64 j, .int .i64 m, .string ⟨u.toArray⟩, .slice none 0 0] 26) = v1 at *
      rw [← hs1]
      have bz := fun cs => below_box v1 (.cells cs 26)
      exact ⟨At.fresh v1 _ _, h1.below (bz _) h1.lt, below_in bx (bz _)⟩
    case rest =>
    obtain ⟨ga, gs, rfl, hG, hS, hbn⟩ := hcut
    replace hN := hN.below hbn hnl
    replace hB1 := hB1.below hbn h1l
    replace hB2 := hB2.below hbn h2l
    replace hX := hX.below hbn hxl
    replace hY := hY.below hbn hyl
    replace hbc := below_in hbc hbn
    clear x0 x1 x2 x3 x4 x5 y0 y1 y2 y3 y4 y5 nx ny hxl hyl hbn hnl h1l h2l
    obtain ⟨x0, x1, x2, x3, x4, x5⟩ := hG.six
    go_upto_region 8 with fail
    go_cut [9, 10] (fun pv ev wx => ∃ gp, pv = .pointer (some ⟨gp, 0, none⟩) ∧ ev = .int .i64 0 ∧ At wx gp 23 #[.int .i64 p0, .int .i64 p1, .string ⟨#[]⟩] ∧ Below wc.heap.size wc wx)
    case first =>
      go_wp2_with fail
      have bx := below_box wc (.cells #[.int .i64 5, .int .i64 0, .int .i64 0, .int .i64 0, .string ⟨#[]⟩, .slice (some ⟨gs, 0, none⟩) 2 2] 26)
      refine (evalNotTwo 5 (by omega) ⟨k, n, t⟩ ⟨j, m, u⟩ ha hb (At.fresh wc 26 #[.int .i64 5, .int .i64 0, .int .i64 0, .int .i64 0, .string ⟨#[]⟩, .slice (some ⟨gs, 0, none⟩) 2 2]) (hS.below bx hS.lt)).mono ?_
      intro en v1 he
      obtain ⟨he, bv⟩ := he
      rw [e1, Option.bind_some, e3] at he
      obtain rfl := he
      simp only [Vl.val]
      go_wp2_with fail
      go_meet
      exact ⟨_, rfl, rfl, At.fresh v1 _ _, below_in bx (below_in bv (below_box v1 _))⟩
    case rest =>
    obtain ⟨g8, rfl, rfl, hP8, hbn⟩ := hcut
    replace hG := hG.below hbn hG.lt
    replace hS := hS.below hbn hS.lt
    replace hN := hN.below hbn hN.lt
    replace hB1 := hB1.below hbn hB1.lt
    replace hB2 := hB2.below hbn hB2.lt
    replace hX := hX.below hbn hX.lt
    replace hY := hY.below hbn hY.lt
    replace hbc := below_in hbc hbn
    clear hbn x0 x1 x2 x3 x4 x5
    obtain ⟨x0, x1, x2, x3, x4, x5⟩ := hG.six
    go_upto_region 9 with fail
    go_cut [11, 12] (fun pv ev wx => ∃ gp, pv = .pointer (some ⟨gp, 0, none⟩) ∧ ev = .int .i64 0 ∧ At wx gp 23 #[.int .i64 p0, .int .i64 p1, .string ⟨#[]⟩] ∧ Below wc.heap.size wc wx)
    case first =>
      go_wp2_with fail
      refine (evalTwoNot 6 (by omega) ⟨k, n, t⟩ ⟨j, m, u⟩ ha hb hN hB1 hB2).mono ?_
      intro en v1 he
      obtain ⟨he, bv⟩ := he
      rw [e4] at he
      obtain rfl := he
      simp only [Vl.val]
      go_wp2_with fail
      go_meet
      exact ⟨_, rfl, rfl, At.fresh v1 _ _, below_in bv (below_box v1 _)⟩
    case rest =>
    obtain ⟨g9, rfl, rfl, hP9, hbn⟩ := hcut
    replace hG := hG.below hbn hG.lt
    replace hS := hS.below hbn hS.lt
    replace hX := hX.below hbn hX.lt
    replace hY := hY.below hbn hY.lt
    replace hP8 := hP8.below hbn hP8.lt
    replace hbc := below_in hbc hbn
    clear hbn x0 x1 x2 x3 x4 x5
    obtain ⟨x0, x1, x2, x3, x4, x5⟩ := hG.six
    go_upto_region 10 with fail
    go_cut [13, 14] (fun pv ev wx => ∃ gp, pv = .pointer (some ⟨gp, 0, none⟩) ∧ ev = .int .i64 0 ∧ At wx gp 23 #[.int .i64 r0, .int .i64 r1, .string ⟨#[]⟩] ∧ Below wc.heap.size wc wx)
    case first =>
      go_wp2_with fail
      refine (evalTwo 5 (by omega) ⟨k, n, t⟩ ⟨j, m, u⟩ ha hb hS).mono ?_
      intro en v1 he
      obtain ⟨he, bv⟩ := he
      rw [e1] at he
      obtain rfl := he
      simp only [Vl.val]
      go_wp2_with fail
      go_meet
      exact ⟨_, rfl, rfl, At.fresh v1 _ _, below_in bv (below_box v1 _)⟩
    case rest =>
    obtain ⟨g10, rfl, rfl, hP10, hbn⟩ := hcut
    replace hX := hX.below hbn hX.lt
    replace hY := hY.below hbn hY.lt
    replace hP8 := hP8.below hbn hP8.lt
    replace hP9 := hP9.below hbn hP9.lt
    replace hbc := below_in hbc hbn
    clear hbn x0 x1 x2 x3 x4 x5
    obtain ⟨y0, y1, y2, y3, y4, y5⟩ := hY.six
    obtain ⟨x0, x1, x2, x3, x4, x5⟩ := hX.six
    go_upto_region 11 with fail
    go_cut [15, 16] (fun pv ev wx => ∃ gp, pv = .pointer (some ⟨gp, 0, none⟩) ∧ ev = .int .i64 0 ∧ At wx gp 23 #[.int .i64 r0, .int .i64 r1, .string ⟨#[]⟩] ∧ Below wc.heap.size wc wx)
    case first =>
      go_wp2_with fail
      have bx := below_box wc (.cells #[.int .i64 1, .int .i64 0, .int .i64 j, .int .i64 m, .string ⟨u.toArray⟩, .slice none 0 0, .int .i64 1, .int .i64 0, .int .i64 k, .int .i64 n, .string ⟨t.toArray⟩, .slice none 0 0] 26)
      refine (evalTwo 5 (by omega) ⟨j, m, u⟩ ⟨k, n, t⟩ hb ha (At.fresh wc 26 #[.int .i64 1, .int .i64 0, .int .i64 j, .int .i64 m, .string ⟨u.toArray⟩, .slice none 0 0, .int .i64 1, .int .i64 0, .int .i64 k, .int .i64 n, .string ⟨t.toArray⟩, .slice none 0 0])).mono ?_
      intro en v1 he
      obtain ⟨he, bv⟩ := he
      rw [e2] at he
      obtain rfl := he
      simp only [Vl.val]
      go_wp2_with fail
      go_meet
      exact ⟨_, rfl, rfl, At.fresh v1 _ _, below_in bx (below_in bv (below_box v1 _))⟩
    case rest =>
    obtain ⟨g11, rfl, rfl, hP11, hbn⟩ := hcut
    replace hP8 := hP8.below hbn hP8.lt
    replace hP9 := hP9.below hbn hP9.lt
    replace hP10 := hP10.below hbn hP10.lt
    replace hbc := below_in hbc hbn
    clear hbn x0 x1 x2 x3 x4 x5
    obtain ⟨q0, q1, q2, -, -, -⟩ := hP8.three
    obtain ⟨s0, s1, s2, -, -, -⟩ := hP9.three
    obtain ⟨t0, t1, t2, -, -, -⟩ := hP10.three
    obtain ⟨v0, v1, v2, -, -, -⟩ := hP11.three
    go_wp2_with fail
    go_ret
    exact ⟨rfl, hbc⟩
end Go.Proofs.Ytfgmhilmjkpeeaa
