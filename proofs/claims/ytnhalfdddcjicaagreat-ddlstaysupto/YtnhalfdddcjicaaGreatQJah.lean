/- The walk of kindOf. -/
/- The walks of nodesLeft and isLong. -/
import Derived.Test.YtnhalfdddcjicaaGreatQJag
import Derived.Deep.RegionHeld3
namespace Go.Proofs.YtnhalfdddcjicaaGreat
open Go.RowKit

theorem CellsE.below {w w' : World} {b o : Nat} {e : Ex} (h : CellsE w b o e) (hb : Below w.heap.size w w') (hlt : b < w.heap.size) : CellsE w' b o e := h.keep fun i => hb.cell (p := ⟨b, i, none⟩) hlt
section
variable {P : Program} {ops : Array Oper} {Q : Exit → Act → World → Prop} {md : Region.Mode} {S : World → Prop}
theorem op_at {i : Nat} {oi : Oper} (hi : (ops.toList.drop i).head? = some oi) : ops[i]? = some oi := by
  rw [List.head?_drop] at hi
  simpa using hi
/-- An operation is taken first, its slot told. -/
theorem take_at {i d : Nat} {oi : Oper} {v : Value} {fuel : Nat} {listed : Array Bool} {ts : Array Value} {ds : List Deferred} {w : World} (hi : (ops.toList.drop i).head? = some oi) (hd : oi.dst = some d)
    (hs : Region.noSelect ops = true) (hf : Region.free md ops listed i = true) (hr : (Region.ready md ops listed).contains i = true)
    (hQ : ∀ c a w, Q (.panic c) (a.put oi.dst v) w → Q (.panic c) a w) (hw : Region.wanted oi (yielded ops ts) = true) (hS : S w)
    (hy : ∀ w, S w → (execOp ({ tmps := ts, defers := ds } : Act).eval oi).run P w = .ok (.value v) w)
    (h : wpAnyH P md ops Q S fuel (listed.setIfInBounds i true) { tmps := ts.setIfInBounds d v, defers := ds } w) : wpAnyH P md ops Q S (fuel + 1) listed { tmps := ts, defers := ds } w :=
  wpAnyH_take (op_at hi) hs hf hr hQ (.inl ⟨hw, hy⟩) hS (by rw [hd]; exact h)
/-- The one operation that may come up. -/
theorem only_at {i : Nat} {o : Oper} {fuel : Nat} {listed : Array Bool} {a : Act} {w : World} (hi : (ops.toList.drop i).head? = some o) (hr : Region.ready md ops listed = [i]) (hw : Region.wanted o (yielded ops a.tmps) = true)
    (h : ∀ K' : Act → World → Prop, Shut (∀ a w, S w → (S w → wpAnyH P md ops Q S fuel (listed.setIfInBounds i true) a w) → K' a w) → Oper.wp P o a w K' Q) : wpAnyH P md ops Q S (fuel + 1) listed a w :=
  wpAnyH_ready hr (by simp) (AllReadyH.cons (op_at hi) (fun K hK => by rw [if_pos hw]; exact h K hK) AllReadyH.nil)
end
theorem two_of {op : Int} {p : Nat} (h : hasOps op p = true) (h1 : ¬ op = 1) (h2 : ¬ op = 2) (h7 : ¬ op = 7) (h8 : ¬ op = 8) : p = 2 := by
  unfold hasOps at h
  rw [if_neg (by omega), if_neg (by omega)] at h
  split at h <;> simp at h
  exact h
theorem At.six {w : World} {g : Nat} {t : TypeId} {x y z p q r : Value} (h : At w g t #[x, y, z, p, q, r]) : w.cell? ⟨g, 0, none⟩ = some x ∧ w.cell? ⟨g, 1, none⟩ = some y ∧ w.cell? ⟨g, 2, none⟩ = some z ∧
    w.cell? ⟨g, 3, none⟩ = some p ∧ w.cell? ⟨g, 4, none⟩ = some q ∧ w.cell? ⟨g, 5, none⟩ = some r := ⟨h.cell 0, h.cell 1, h.cell 2, h.cell 3, h.cell 4, h.cell 5⟩

set_option maxRecDepth 100000 in
set_option maxHeartbeats 6400000 in
theorem kindOf_any (e : Ex) : ∀ (w : World) (A : Option Addr) (n cap : Nat) (ks : List Int), InE w e → Cols w A n ks → n ≤ maxLen →
    Calls Tryz.prog 118 #[e.val, .slice A n cap] w fun en w' => EndK (kindE ks e) en ∧ Below w.heap.size w w' := by
  induction e with
  | nil => intro w A n cap ks h; exact h.elim
  | mk op col v B p cp arg ih =>
    intro w A n cap ks hin hcols hn
    have ho := hasOperands_any (.mk op col v B p cp arg)
    have hu := unused_any (.mk op col v B p cp arg)
    have H : Hid (kindE ks (.mk op col v B p cp arg) = if hasOps op p = false then none else if unused op col v = false then none else if op = 1 then (if goodV v = true then some v.kind else none) else if op = 2 then colAt ks col
      else if op = 7 then (kindE ks (arg 0)).bind fun k => if truthK k = true then some 1 else none else if op = 8 then (kindE ks (arg 0)).map fun _ => 1 else (kindE ks (arg 0)).bind fun a => (kindE ks (arg 1)).bind fun b => pairK op a b) := by rw [kindE]; exact Lib.hid rfl
    rw [InE] at hin
    obtain ⟨-, hcol, hv, -, harg⟩ := hin
    have hvg := vgood_any v hv
    obtain ⟨vk, vn, vt⟩ := v
    simp only [Ex.val, Ex.op, Ex.col, Ex.v, Ex.A, Ex.n, Ex.cap, Vl.val] at ho hu hvg ⊢
    have hb := below_box w (.cells #[.int .i64 op, .int .i64 col, .int .i64 vk, .int .i64 vn, .string ⟨vt.toArray⟩, .slice B p cp] 67)
    have hA := At.fresh w 67 #[.int .i64 op, .int .i64 col, .int .i64 vk, .int .i64 vn, .string ⟨vt.toArray⟩, .slice B p cp]
    cases hop : hasOps op p with
    | false =>
      rw [hop, if_pos rfl] at H
      rw [hop] at ho
      clear hop ih harg hcols
      go_enter Tryz.func118, Tryz.ntmps118
      go_wp2_with fail
      refine (ho _).mono ?_
      rintro e w1 ⟨rfl, b1⟩
      go_wp2_with (go_at_call 129; refine (require_no _ _).mono ?_; rintro e w' ⟨rfl, rfl⟩)
      exact ⟨rfl, by rw [H.out]; exact fails4, below_in hb b1⟩
    | true =>
    rw [hop, if_neg (by simp)] at H
    rw [hop] at ho
    cases hun : unused op col ⟨vk, vn, vt⟩ with
    | false =>
      rw [hun, if_pos rfl] at H
      rw [hun] at hu
      clear hop hun ih harg hcols
      go_enter Tryz.func118, Tryz.ntmps118
      go_wp2_with fail
      refine (ho _).mono ?_
      rintro e w1 ⟨rfl, b1⟩
      have hb1 := below_in hb b1
      obtain ⟨c0, c1, c2, c3, c4, c5⟩ := (hA.below b1 hA.lt).six
      go_wp2_with fail
      refine (hu _).mono ?_
      rintro e w2 ⟨rfl, b2⟩
      go_wp2_with (go_at_call 129; refine (require_no _ _).mono ?_; rintro e w' ⟨rfl, rfl⟩)
      exact ⟨rfl, by rw [H.out]; exact fails4, below_in hb1 b2⟩
    | true =>
    rw [hun, if_neg (by simp)] at H
    rw [hun] at hu
    clear hun
    go_enter Tryz.func118, Tryz.ntmps118
    go_wp2_with fail
    refine (ho _).mono ?_
    rintro e w1 ⟨rfl, b1⟩
    have hb1 := below_in hb b1
    have hA1 := hA.below b1 hA.lt
    obtain ⟨c0, c1, c2, c3, c4, c5⟩ := hA1.six
    go_wp2_with fail
    refine (hu _).mono ?_
    rintro e w2 ⟨rfl, b2⟩
    clear c0 c1 c2 c3 c4 c5
    have hb2 := below_in hb1 b2
    have hA2 := hA1.below b2 hA1.lt
    clear hb1 hA1 b2 b1 hA ho hu
    obtain ⟨c0, c1, c2, c3, c4, c5⟩ := hA2.six
    go_wp2_with fail
    refine (require_ok _ _).mono ?_
    rintro e w' ⟨rfl, rfl⟩
    by_cases h1 : op = 1
    · subst h1
      rw [if_pos rfl] at H
      clear ih harg hcols
      go_wp2_with fail
      refine (hvg _).mono ?_
      rintro e w3 ⟨rfl, b3⟩
      have hb3 := below_in hb2 b3
      obtain ⟨c0, c1, c2, c3, c4, c5⟩ := (hA2.below b3 hA2.lt).six
      cases hg : goodV ⟨vk, vn, vt⟩ with
      | false =>
        rw [hg, if_neg (by simp)] at H
        clear hg
        go_wp2_with (go_at_call 129; refine (require_no _ _).mono ?_; rintro e w' ⟨rfl, rfl⟩)
        exact ⟨rfl, by rw [H.out]; exact fails4, hb3⟩
      | true =>
        rw [hg, if_pos rfl] at H
        clear hg
        go_wp2_with (go_at_call 129; refine (require_ok _ _).mono ?_; rintro e w' ⟨rfl, rfl⟩)
        go_ret
        exact ⟨by rw [H.out]; rfl, hb3⟩
    rw [if_neg h1] at H
    have h1' : (op == 1) = false := by simpa using h1
    by_cases h2 : op = 2
    · subst h2
      rw [if_pos rfl] at H
      clear ih harg
      by_cases hc : 0 ≤ col ∧ col < n
      · obtain ⟨q, rfl⟩ : ∃ q : Nat, col = q := ⟨col.toNat, by omega⟩
        obtain ⟨cb, coff, rfl, hlt, hcell⟩ := hcols.2 (by omega)
        have hcl := (hb2.cell (p := ⟨cb, coff + q * 6 + 1, none⟩) hlt).trans (hcell q (by omega))
        have hca : colAt ks q = some (ks.getD q 0) := by unfold colAt; rw [if_pos (by rw [hcols.1]; omega)]; simp
        rw [hca] at H
        generalize ks.getD q 0 = kk at *
        have hq1 : (q : Int) < (n : Int) := hc.2
        have hq2 : q < n := by omega
        clear hca hcell hcols hc
        go_wp2_with (go_at_call 129; refine (require_ok _ _).mono ?_; rintro e w' ⟨rfl, rfl⟩)
        go_ret
        exact ⟨by rw [H.out]; rfl, hb2⟩
      · have hca : colAt ks col = none := by unfold colAt; rw [if_neg (by rw [hcols.1]; omega)]
        rw [hca] at H
        clear hca
        by_cases h0 : 0 ≤ col
        · have hd : decide (0 ≤ col) = true := by simpa using h0
          have hd2 : decide (col < n) = false := by simp; omega
          clear hc h0 hcols
          go_wp2_with (go_at_call 129; refine (require_no _ _).mono ?_; rintro e w' ⟨rfl, rfl⟩)
          exact ⟨rfl, by rw [H.out]; exact fails4, hb2⟩
        · have hd : decide (0 ≤ col) = false := by simp; omega
          clear hc h0 hcols
          go_wp2_with (go_at_call 129; refine (require_no _ _).mono ?_; rintro e w' ⟨rfl, rfl⟩)
          exact ⟨rfl, by rw [H.out]; exact fails4, hb2⟩
    rw [if_neg h2] at H
    have h2' : (op == 2) = false := by simpa using h2
    have hp0 : 0 < p := by unfold hasOps at hop; rw [if_neg (by omega)] at hop; repeat' split at hop <;> simp at hop <;> omega
    obtain ⟨ab, aoff, rfl, alt, acell⟩ := harg hp0
    have a0 := (acell 0 hp0).1.below hb2 alt
    have i0 := (acell 0 hp0).2.below hb2
    have k2 := hcols.below hb2
    have ih0 := ih 0 w2 A n cap ks i0 k2 hn
    obtain ⟨e0, e1, e2, e3, e4, e5⟩ := a0
    simp only [Nat.zero_mul, Nat.add_zero] at e0 e1 e2 e3 e4 e5
    have hp0' : (0 : Int) < (p : Int) := by omega
    by_cases h7 : op = 7
    · subst h7
      rw [if_pos rfl] at H
      clear ih acell hcols
      cases hk : kindE ks (arg 0) with
      | none =>
        rw [hk] at ih0 H
        clear hk
        go_wp2_with fail
        refine ih0.mono ?_
        rintro e w3 ⟨⟨r, hr, rfl⟩, b3⟩
        go_wp2_with fail
        exact ⟨rfl, by rw [H.out]; exact ⟨r, hr, rfl⟩, below_in hb2 b3⟩
      | some ka =>
        rw [hk, Option.bind_some] at H
        rw [hk] at ih0
        clear hk
        have hq := reqTruthK_any ka
        cases ht : truthK ka with
        | false =>
          rw [ht, if_neg (by simp)] at H
          rw [ht] at hq
          clear ht
          go_wp2_with fail
          refine ih0.mono ?_
          rintro e w3 ⟨rfl, b3⟩
          go_wp2_with fail
          refine (hq _).mono ?_
          rintro e w4 ⟨⟨r, hr, rfl⟩, rfl⟩
          go_wp2_with fail
          exact ⟨rfl, by rw [H.out]; exact ⟨r, hr, rfl⟩, below_in hb2 b3⟩
        | true =>
          rw [ht, if_pos rfl] at H
          rw [ht] at hq
          clear ht
          go_wp2_with fail
          refine ih0.mono ?_
          rintro e w3 ⟨rfl, b3⟩
          go_wp2_with fail
          refine (hq _).mono ?_
          rintro e w4 ⟨rfl, rfl⟩
          go_wp2_with fail
          go_ret
          exact ⟨by rw [H.out]; rfl, below_in hb2 b3⟩
    rw [if_neg h7] at H
    have h7' : (op == 7) = false := by simpa using h7
    by_cases h8 : op = 8
    · subst h8
      rw [if_pos rfl] at H
      clear ih acell hcols
      cases hk : kindE ks (arg 0) with
      | none =>
        rw [hk] at ih0 H
        clear hk
        go_wp2_with fail
        refine ih0.mono ?_
        rintro e w3 ⟨⟨r, hr, rfl⟩, b3⟩
        go_wp2_with fail
        exact ⟨rfl, by rw [H.out]; exact ⟨r, hr, rfl⟩, below_in hb2 b3⟩
      | some ka =>
        rw [hk, Option.map_some] at H
        rw [hk] at ih0
        clear hk
        go_wp2_with fail
        refine ih0.mono ?_
        rintro e w3 ⟨rfl, b3⟩
        go_wp2_with fail
        go_ret
        exact ⟨by rw [H.out]; rfl, below_in hb2 b3⟩
    rw [if_neg h8] at H
    have h8' : (op == 8) = false := by simpa using h8
    have hp2 : p = 2 := two_of hop h1 h2 h7 h8
    subst hp2
    have a1 := (acell 1 (by omega)).1.below hb2 alt
    have i1 := (acell 1 (by omega)).2.below hb2
    obtain ⟨d0, d1, d2, d3, d4, d5⟩ := a1
    simp only [Nat.one_mul] at d0 d1 d2 d3 d4 d5
    have ih1 := fun w3 (b3 : Below w2.heap.size w2 w3) => ih 1 w3 A n cap ks (i1.below b3) (k2.below b3) hn
    have ih0 := fun w3 (b3 : Below w2.heap.size w2 w3) => ih 0 w3 A n cap ks (i0.below b3) (k2.below b3) hn
    clear ih acell hcols harg
    go_wp2_with fail
    refine wp_region_held_drew (S := fun w' => Below w2.heap.size w2 w' ∧ w'.cell? ⟨w.heap.size, 0, none⟩ = some (.int .i64 op) ∧ w'.cell? ⟨w.heap.size, 5, none⟩ = some (.slice (some ⟨ab, aoff, none⟩) 2 cp) ∧
      w'.cell? ⟨ab, aoff, none⟩ = some (.int .i64 (arg 0).op) ∧ w'.cell? ⟨ab, aoff + 1, none⟩ = some (.int .i64 (arg 0).col) ∧ w'.cell? ⟨ab, aoff + 2, none⟩ = some (.int .i64 (arg 0).v.kind) ∧ w'.cell? ⟨ab, aoff + 3, none⟩ = some (.int .i64 (arg 0).v.num) ∧
      w'.cell? ⟨ab, aoff + 4, none⟩ = some (.string ⟨(arg 0).v.text.toArray⟩) ∧ w'.cell? ⟨ab, aoff + 5, none⟩ = some (.slice (arg 0).A (arg 0).n (arg 0).cap) ∧
      w'.cell? ⟨ab, aoff + 6, none⟩ = some (.int .i64 (arg 1).op) ∧ w'.cell? ⟨ab, aoff + 6 + 1, none⟩ = some (.int .i64 (arg 1).col) ∧ w'.cell? ⟨ab, aoff + 6 + 2, none⟩ = some (.int .i64 (arg 1).v.kind) ∧ w'.cell? ⟨ab, aoff + 6 + 3, none⟩ = some (.int .i64 (arg 1).v.num) ∧
      w'.cell? ⟨ab, aoff + 6 + 4, none⟩ = some (.string ⟨(arg 1).v.text.toArray⟩) ∧ w'.cell? ⟨ab, aoff + 6 + 5, none⟩ = some (.slice (arg 1).A (arg 1).n (arg 1).cap)) (by kernel_rfl) ?_ (fun hS => ?_)
    · exact ⟨(Below.refl _ _).drew, c0, c5, e0, e1, e2, e3, e4, e5, d0, d1, d2, d3, d4, d5⟩
    refine take_at (i := 0) (v := ?_) rfl rfl (by kernel_rfl) (by kernel_rfl) (by kernel_rfl) (fun _ _ _ h => h) (by rfl) hS ?_ ?_
    rotate_left
    · intro w' hw
      obtain ⟨-, c0, c5, e0, e1, e2, e3, e4, e5, d0, d1, d2, d3, d4, d5⟩ := hw
      go_simp
      try with_reducible rfl
    try simp only [List.setIfInBounds_toArray, List.set_cons_zero, List.set_cons_succ]
    refine take_at (i := 1) (v := ?_) rfl rfl (by kernel_rfl) (by kernel_rfl) (by kernel_rfl) (fun _ _ _ h => h) (by rfl) hS ?_ ?_
    rotate_left
    · intro w' hw
      obtain ⟨-, c0, c5, e0, e1, e2, e3, e4, e5, d0, d1, d2, d3, d4, d5⟩ := hw
      go_simp
      try with_reducible rfl
    try simp only [List.setIfInBounds_toArray, List.set_cons_zero, List.set_cons_succ]
    refine take_at (i := 2) (v := ?_) rfl rfl (by kernel_rfl) (by kernel_rfl) (by kernel_rfl) (fun _ _ _ h => h) (by rfl) hS ?_ ?_
    rotate_left
    · intro w' hw
      obtain ⟨-, c0, c5, e0, e1, e2, e3, e4, e5, d0, d1, d2, d3, d4, d5⟩ := hw
      go_simp
      try with_reducible rfl
    try simp only [List.setIfInBounds_toArray, List.set_cons_zero, List.set_cons_succ]
    refine take_at (i := 3) (v := ?_) rfl rfl (by kernel_rfl) (by kernel_rfl) (by kernel_rfl) (fun _ _ _ h => h) (by rfl) hS ?_ ?_
    rotate_left
    · intro w' hw
      obtain ⟨-, c0, c5, e0, e1, e2, e3, e4, e5, d0, d1, d2, d3, d4, d5⟩ := hw
      go_simp
      try with_reducible rfl
    try simp only [List.setIfInBounds_toArray, List.set_cons_zero, List.set_cons_succ]
    refine take_at (i := 4) (v := ?_) rfl rfl (by kernel_rfl) (by kernel_rfl) (by kernel_rfl) (fun _ _ _ h => h) (by rfl) hS ?_ ?_
    rotate_left
    · intro w' hw
      obtain ⟨-, c0, c5, e0, e1, e2, e3, e4, e5, d0, d1, d2, d3, d4, d5⟩ := hw
      go_simp
      try with_reducible rfl
    try simp only [List.setIfInBounds_toArray, List.set_cons_zero, List.set_cons_succ]
    refine take_at (i := 5) (v := ?_) rfl rfl (by kernel_rfl) (by kernel_rfl) (by kernel_rfl) (fun _ _ _ h => h) (by rfl) hS ?_ ?_
    rotate_left
    · intro w' hw
      obtain ⟨-, c0, c5, e0, e1, e2, e3, e4, e5, d0, d1, d2, d3, d4, d5⟩ := hw
      go_simp
      try with_reducible rfl
    try simp only [List.setIfInBounds_toArray, List.set_cons_zero, List.set_cons_succ]
    refine take_at (i := 6) (v := ?_) rfl rfl (by kernel_rfl) (by kernel_rfl) (by kernel_rfl) (fun _ _ _ h => h) (by rfl) hS ?_ ?_
    rotate_left
    · intro w' hw
      obtain ⟨-, c0, c5, e0, e1, e2, e3, e4, e5, d0, d1, d2, d3, d4, d5⟩ := hw
      go_simp
      try with_reducible rfl
    try simp only [List.setIfInBounds_toArray, List.set_cons_zero, List.set_cons_succ]
    refine take_at (i := 8) (v := ?_) rfl rfl (by kernel_rfl) (by kernel_rfl) (by kernel_rfl) (fun _ _ _ h => h) (by rfl) hS ?_ ?_
    rotate_left
    · intro w' hw
      obtain ⟨-, c0, c5, e0, e1, e2, e3, e4, e5, d0, d1, d2, d3, d4, d5⟩ := hw
      go_simp
      try with_reducible rfl
    try simp only [List.setIfInBounds_toArray, List.set_cons_zero, List.set_cons_succ]
    refine take_at (i := 9) (v := ?_) rfl rfl (by kernel_rfl) (by kernel_rfl) (by kernel_rfl) (fun _ _ _ h => h) (by rfl) hS ?_ ?_
    rotate_left
    · intro w' hw
      obtain ⟨-, c0, c5, e0, e1, e2, e3, e4, e5, d0, d1, d2, d3, d4, d5⟩ := hw
      go_simp
      try with_reducible rfl
    try simp only [List.setIfInBounds_toArray, List.set_cons_zero, List.set_cons_succ]
    refine take_at (i := 10) (v := ?_) rfl rfl (by kernel_rfl) (by kernel_rfl) (by kernel_rfl) (fun _ _ _ h => h) (by rfl) hS ?_ ?_
    rotate_left
    · intro w' hw
      obtain ⟨-, c0, c5, e0, e1, e2, e3, e4, e5, d0, d1, d2, d3, d4, d5⟩ := hw
      go_simp
      try with_reducible rfl
    try simp only [List.setIfInBounds_toArray, List.set_cons_zero, List.set_cons_succ]
    refine take_at (i := 11) (v := ?_) rfl rfl (by kernel_rfl) (by kernel_rfl) (by kernel_rfl) (fun _ _ _ h => h) (by rfl) hS ?_ ?_
    rotate_left
    · intro w' hw
      obtain ⟨-, c0, c5, e0, e1, e2, e3, e4, e5, d0, d1, d2, d3, d4, d5⟩ := hw
      go_simp
      try with_reducible rfl
    try simp only [List.setIfInBounds_toArray, List.set_cons_zero, List.set_cons_succ]
    refine take_at (i := 12) (v := ?_) rfl rfl (by kernel_rfl) (by kernel_rfl) (by kernel_rfl) (fun _ _ _ h => h) (by rfl) hS ?_ ?_
    rotate_left
    · intro w' hw
      obtain ⟨-, c0, c5, e0, e1, e2, e3, e4, e5, d0, d1, d2, d3, d4, d5⟩ := hw
      go_simp
      try with_reducible rfl
    try simp only [List.setIfInBounds_toArray, List.set_cons_zero, List.set_cons_succ]
    have keep : ∀ w3, Below w2.heap.size w2 w3 → w3.cell? ⟨w.heap.size, 0, none⟩ = some (.int .i64 op) ∧ w3.cell? ⟨w.heap.size, 5, none⟩ = some (.slice (some ⟨ab, aoff, none⟩) 2 cp) ∧
      w3.cell? ⟨ab, aoff, none⟩ = some (.int .i64 (arg 0).op) ∧ w3.cell? ⟨ab, aoff + 1, none⟩ = some (.int .i64 (arg 0).col) ∧ w3.cell? ⟨ab, aoff + 2, none⟩ = some (.int .i64 (arg 0).v.kind) ∧ w3.cell? ⟨ab, aoff + 3, none⟩ = some (.int .i64 (arg 0).v.num) ∧
      w3.cell? ⟨ab, aoff + 4, none⟩ = some (.string ⟨(arg 0).v.text.toArray⟩) ∧ w3.cell? ⟨ab, aoff + 5, none⟩ = some (.slice (arg 0).A (arg 0).n (arg 0).cap) ∧
      w3.cell? ⟨ab, aoff + 6, none⟩ = some (.int .i64 (arg 1).op) ∧ w3.cell? ⟨ab, aoff + 6 + 1, none⟩ = some (.int .i64 (arg 1).col) ∧ w3.cell? ⟨ab, aoff + 6 + 2, none⟩ = some (.int .i64 (arg 1).v.kind) ∧ w3.cell? ⟨ab, aoff + 6 + 3, none⟩ = some (.int .i64 (arg 1).v.num) ∧
      w3.cell? ⟨ab, aoff + 6 + 4, none⟩ = some (.string ⟨(arg 1).v.text.toArray⟩) ∧ w3.cell? ⟨ab, aoff + 6 + 5, none⟩ = some (.slice (arg 1).A (arg 1).n (arg 1).cap) := fun w3 b3 => by
      have alt' : ab < w2.heap.size := Nat.lt_of_lt_of_le alt hb2.size
      exact ⟨(b3.cell (p := ⟨_, _, none⟩) hA2.lt).trans c0, (b3.cell (p := ⟨_, _, none⟩) hA2.lt).trans c5, (b3.cell (p := ⟨_, _, none⟩) alt').trans e0, (b3.cell (p := ⟨_, _, none⟩) alt').trans e1, (b3.cell (p := ⟨_, _, none⟩) alt').trans e2, (b3.cell (p := ⟨_, _, none⟩) alt').trans e3, (b3.cell (p := ⟨_, _, none⟩) alt').trans e4, (b3.cell (p := ⟨_, _, none⟩) alt').trans e5,
        (b3.cell (p := ⟨_, _, none⟩) alt').trans d0, (b3.cell (p := ⟨_, _, none⟩) alt').trans d1, (b3.cell (p := ⟨_, _, none⟩) alt').trans d2, (b3.cell (p := ⟨_, _, none⟩) alt').trans d3, (b3.cell (p := ⟨_, _, none⟩) alt').trans d4, (b3.cell (p := ⟨_, _, none⟩) alt').trans d5⟩
    clear c0 c1 c2 c3 c4 c5 e0 e1 e2 e3 e4 e5 d0 d1 d2 d3 d4 d5
    refine only_at (i := 7) rfl (by kernel_rfl) (by rfl) (fun K hK => ?_)
    go_simp
    refine (ih0 _ hS.1).mono ?_
    clear hS
    intro e w3 he
    obtain ⟨he, b3⟩ := he
    have b3' : Below w2.heap.size w2 w3 := below_in (Below.refl _ _).drew b3
    cases hk : kindE ks (arg 0) with
    | none =>
      rw [hk] at he H
      obtain ⟨r, hr, rfl⟩ := he
      exact ⟨rfl, by rw [H.out]; exact ⟨r, hr, rfl⟩, below_in hb2 b3'⟩
    | some ka =>
    rw [hk] at he
    rw [hk, Option.bind_some] at H
    clear hk
    obtain rfl := he
    go_simp
    refine hK.out _ _ ⟨b3', keep _ b3'⟩ (fun hS => ?_)
    clear hK K
    try simp only [Act.put, List.setIfInBounds_toArray, List.set_cons_zero, List.set_cons_succ]
    refine only_at (i := 13) rfl (by kernel_rfl) (by rfl) (fun K hK => ?_)
    go_simp
    refine (ih1 _ hS.1).mono ?_
    clear hS
    intro e w4 he
    obtain ⟨he, b4⟩ := he
    have b4' : Below w2.heap.size w2 w4 := below_in b3' b4
    cases hk : kindE ks (arg 1) with
    | none =>
      rw [hk] at he H
      obtain ⟨r, hr, rfl⟩ := he
      exact ⟨rfl, by rw [H.out]; exact ⟨r, hr, rfl⟩, below_in hb2 b4'⟩
    | some kb =>
    rw [hk] at he
    rw [hk, Option.bind_some] at H
    clear hk
    obtain rfl := he
    go_simp
    refine hK.out _ _ ⟨b4', keep _ b4'⟩ (fun hS => ?_)
    clear hK K
    try simp only [Act.put, List.setIfInBounds_toArray, List.set_cons_zero, List.set_cons_succ]
    refine only_at (i := 14) rfl (by kernel_rfl) (by rfl) (fun K hK => ?_)
    go_simp
    refine (kindPair_any _ _ _ _).mono ?_
    intro e w5 he
    obtain ⟨he, rfl⟩ := he
    cases hk : pairK op ka kb with
    | none =>
      rw [hk] at he H
      obtain ⟨r, hr, rfl⟩ := he
      exact ⟨rfl, by rw [H.out]; exact ⟨r, hr, rfl⟩, below_in hb2 b4'⟩
    | some k =>
    rw [hk] at he
    rw [hk] at H
    clear hk
    obtain rfl := he
    go_simp
    refine hK.out _ _ hS (fun hS => ?_)
    clear hK K
    try simp only [Act.put, List.setIfInBounds_toArray, List.set_cons_zero, List.set_cons_succ]
    refine only_at (i := 15) rfl (by kernel_rfl) (by rfl) (fun K hK => ?_)
    go_simp
    refine hK.out _ _ hS (fun hS => ?_)
    clear hK K
    try simp only [Act.put, List.setIfInBounds_toArray, List.set_cons_zero, List.set_cons_succ]
    refine wpAnyH_done (by kernel_rfl) ?_ _
    clear hS
    go_wp2_with fail
    go_ret
    exact ⟨by rw [H.out]; rfl, below_in hb2 b4'⟩
end Go.Proofs.YtnhalfdddcjicaaGreat

namespace Go.Proofs.YtnhalfdddcjicaaGreat
open Go.RowKit

set_option maxRecDepth 100000 in
set_option maxHeartbeats 1600000 in
theorem nodes_any (e : Ex) : ∀ (nodes levels : Int) (w : World), InE w e → 0 ≤ nodes → nodes ≤ 1000 → 0 ≤ levels → levels ≤ 1000 →
    Calls Tryz.prog 127 #[e.val, .int .i64 nodes, .int .i64 levels] w fun en w' => en = .returned (.int .i64 (leftE e nodes levels)) ∧ Below w.heap.size w w' := by
  induction e with
  | nil => intro nodes levels w h; exact h.elim
  | mk op col v B p cp arg ih =>
    intro nodes levels w hin h1 h2 h3 h4
    have H := Lib.hid (leftE_mk op col v B p cp arg nodes levels)
    rw [InE] at hin
    obtain ⟨-, -, -, hp, harg⟩ := hin
    unfold maxLen at hp
    simp only [Ex.val, Ex.op, Ex.col, Ex.v, Ex.A, Ex.n, Ex.cap]
    have hb := below_box w (.cells #[.int .i64 op, .int .i64 col, .int .i64 v.kind, .int .i64 v.num, .string ⟨v.text.toArray⟩, .slice B p cp] 67)
    by_cases hn0 : nodes = 0
    · subst hn0
      rw [if_pos (.inl rfl)] at H
      clear ih harg
      go_enter Tryz.func127, Tryz.ntmps127
      go_wp2
      go_ret
      exact ⟨by rw [H.out]; rfl, hb⟩
    have hn0' : (nodes == 0) = false := by simpa using hn0
    by_cases hl0 : levels = 0
    · subst hl0
      rw [if_pos (.inr rfl)] at H
      clear ih harg
      go_enter Tryz.func127, Tryz.ntmps127
      go_wp2
      go_ret
      exact ⟨by rw [H.out]; rfl, hb⟩
    have hl0' : (levels == 0) = false := by simpa using hl0
    rw [if_neg (by omega)] at H
    have q1 : 0 ≤ levels - 1 := by omega
    have q2 : levels - 1 ≤ 1000 := by omega
    go_enter Tryz.func127, Tryz.ntmps127
    go_wp2
    go_loopw [1, 20] (fun nd i wr => ∃ (k : Nat) (z : Int), k ≤ p ∧ i = .int .i64 k ∧ nd = .int .i64 z ∧ Hid (z = leftTo arg nodes levels k) ∧ 0 ≤ z ∧ z ≤ 1000 ∧ Below w.heap.size w wr) (fun _ i _ => p - (intOf i).toNat)
    case atStart => exact ⟨0, nodes - 1, by omega, rfl, rfl, Lib.hid rfl, by omega, by omega, hb⟩
    case round =>
      obtain ⟨k, z, hk, rfl, rfl, hz, hz0, hz1, hbr⟩ := hrel
      by_cases hlt : k < p
      · obtain ⟨b, off, rfl, hbl, hcell⟩ := harg (by omega)
        have hcl := (hcell k hlt).1.below hbr hbl
        have hik := (hcell k hlt).2.below hbr
        have HS := Lib.hid (leftTo_succ arg nodes levels k)
        rw [← hz.out, if_neg (by omega)] at HS
        have hneg := fun h => leftTo_neg arg nodes levels (k + 1) h (p - (k + 1))
        rw [show k + 1 + (p - (k + 1)) = p by omega] at hneg
        have HN := Lib.hid hneg
        have hrng := leftE_range (arg k) z (levels - 1) hz0
        obtain ⟨y, hy⟩ : ∃ y, leftE (arg k) z (levels - 1) = y := ⟨_, rfl⟩
        have iha := fun w' (b' : Below wr.heap.size wr w') => ih k z (levels - 1) w' (hik.below b') hz0 hz1 q1 q2
        rw [hy] at hrng HS iha
        clear hy hneg ih hcell hik harg
        unfold Ex.val at iha
        obtain ⟨c0, c1, c2, c3, c4, c5⟩ := hcl
        have hbx := below_box wr (.cells #[.int .i64 (arg k).op, .int .i64 (arg k).col, .int .i64 (arg k).v.kind, .int .i64 (arg k).v.num, .string ⟨(arg k).v.text.toArray⟩, .slice (arg k).A (arg k).n (arg k).cap] 67)
        go_wp2_with fail
        refine (iha _ hbx).mono ?_
        rintro e w2 ⟨rfl, b2⟩
        have hb2 := below_in hbr (below_in hbx b2)
        by_cases hy0 : y < 0
        · go_wp2_with fail
          go_ret
          refine ⟨?_, hb2⟩
          rw [H.out, HN.out (by rw [HS.out]; omega)]
          rfl
        · go_wp2_with fail
          refine ⟨⟨k + 1, y, by omega, by go_num, rfl, Lib.hid HS.out.symm, by omega, by omega, hb2⟩, by simp [intOf]; omega⟩
      · go_wp2
        go_ret
        refine ⟨?_, hbr⟩
        rw [H.out, hz.out, show k = p by omega]
        rfl

set_option maxHeartbeats 400000 in
theorem isLong_any (e : Ex) (w : World) (hin : InE w e) : Calls Tryz.prog 115 #[e.val] w fun en w' => en = .returned (.bool (decide (leftE e 24 8 < 0))) ∧ Below w.heap.size w w' := by
  have hb := below_box w (.cells #[.int .i64 e.op, .int .i64 e.col, .int .i64 e.v.kind, .int .i64 e.v.num, .string ⟨e.v.text.toArray⟩, .slice e.A e.n e.cap] 67)
  have iha := fun w' (b' : Below w.heap.size w w') => nodes_any e 24 8 w' (hin.below b') (by omega) (by omega) (by omega) (by omega)
  unfold Ex.val at iha ⊢
  generalize leftE e 24 8 = y at *
  go_enter Tryz.func115, Tryz.ntmps115
  go_wp2_with fail
  refine (iha _ hb).mono ?_
  rintro en w2 ⟨rfl, b2⟩
  go_wp2_with fail
  go_ret
  exact ⟨rfl, below_in hb b2⟩
end Go.Proofs.YtnhalfdddcjicaaGreat
