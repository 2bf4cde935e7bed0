/- The walk of valueOf. -/
import Derived.Test.YtfgmhilmjkpeeaaExF
import Derived.Test.YtfgmhilmjkpeeaaExG
namespace Go.Proofs.Ytfgmhilmjkpeeaa
open Go.RowKit

theorem box2 (w : World) (t s : TypeId) (x y : Array Value) : Below w.heap.size w ((w.alloc (.cells x t)).alloc (.cells y s)) ∧ At ((w.alloc (.cells x t)).alloc (.cells y s)) w.heap.size t x ∧ At ((w.alloc (.cells x t)).alloc (.cells y s)) (w.heap.size + 1) s y := by
  refine ⟨(below_box w _).alloc (by simp) _, (At.fresh w t x).alloc _, ?_⟩
  have := At.fresh (w.alloc (.cells x t)) s y
  simpa using this

set_option maxRecDepth 100000 in
set_option maxHeartbeats 6400000 in
theorem valueOf_any (e : Ex) : ∀ (w : World) (A : Option Addr) (n cap : Nat) (vs : List Vl), InE w e → Vals w A n vs → n ≤ maxLen →
    Calls Try.prog 22 #[e.val, .slice A n cap] w fun en w' => EndV (valE vs e) en ∧ Below w.heap.size w w' := by
  induction e with
  | nil => intro w A n cap vs h; exact h.elim
  | mk op col v B p cp arg ih =>
    intro w A n cap vs hin hrow hn
    have ho := hasOperands_any (.mk op col v B p cp arg)
    have H : Hid (valE vs (.mk op col v B p cp arg) = if hasOps op p = false then none else if op = 1 then some v else if op = 2 then rowAt vs col
      else if op = 7 then (valE vs (arg 0)).bind notV else if op = 8 then (valE vs (arg 0)).map fun a => truthV (decide (a.kind = 0)) else (valE vs (arg 0)).bind fun a => (valE vs (arg 1)).bind fun b => pairV op a b) := by rw [valE]; exact Lib.hid rfl
    rw [InE] at hin
    obtain ⟨-, hcol, -, -, harg⟩ := hin
    obtain ⟨vk, vn, vt⟩ := v
    simp only [Ex.val, Ex.op, Ex.col, Ex.v, Ex.A, Ex.n, Ex.cap] at ho ⊢
    obtain ⟨hb, hA, hZ⟩ := box2 w 26 23 #[.int .i64 op, .int .i64 col, .int .i64 vk, .int .i64 vn, .string ⟨vt.toArray⟩, .slice B p cp] z3
    unfold z3 at hb hA hZ
    cases hop : hasOps op p with
    | false =>
      rw [hop, if_pos rfl] at H
      rw [hop] at ho
      clear hop ih harg hrow
      go_enter Try.func22, Try.ntmps22
      go_wp2_with fail
      refine (ho _).mono ?_
      rintro e w1 ⟨rfl, b1⟩
      go_wp2_with (go_at_call 31; refine (require_no _ _).mono ?_; rintro e w' ⟨rfl, rfl⟩)
      exact ⟨rfl, by rw [H.out]; exact fails4, below_in hb b1⟩
    | true =>
    rw [hop, if_neg (by simp)] at H
    rw [hop] at ho
    go_enter Try.func22, Try.ntmps22
    go_wp2_with fail
    refine (ho _).mono ?_
    rintro e w2 ⟨rfl, b2⟩
    have hb2 := below_in hb b2
    have hA2 := hA.below b2 hA.lt
    have hZ2 := hZ.below b2 hZ.lt
    clear hb hA hZ b2 ho
    obtain ⟨c0, c1, c2, c3, c4, c5⟩ := hA2.six
    obtain ⟨z0, z1, z2, g0, g1, g2⟩ := hZ2.three
    go_wp2_with fail
    refine (require_ok _ _).mono ?_
    rintro e w' ⟨rfl, rfl⟩
    by_cases h1 : op = 1
    · subst h1
      rw [if_pos rfl] at H
      clear ih harg hrow
      go_wp2_with fail
      refine bodyPost_ret (v := (Vl.mk vk vn vt).val) (by simp [results, Try.results22, go_sem, Vl.val, z0, z1, z2]) rfl ⟨by rw [H.out]; rfl, below_set3 hb2 (by omega) _ _ _⟩
    rw [if_neg h1] at H
    have h1' : (op == 1) = false := by simpa using h1
    by_cases h2 : op = 2
    · subst h2
      rw [if_pos rfl] at H
      clear ih harg
      by_cases hc : 0 ≤ col ∧ col < n
      · obtain ⟨q, rfl⟩ : ∃ q : Nat, col = q := ⟨col.toNat, by omega⟩
        obtain ⟨cb, coff, rfl, hlt, hcell⟩ := hrow.2 (by omega)
        obtain ⟨k0, k1, k2⟩ := hcell q (by omega)
        have k0 := (hb2.cell (p := ⟨cb, coff + q * 3, none⟩) hlt).trans k0
        have k1 := (hb2.cell (p := ⟨cb, coff + q * 3 + 1, none⟩) hlt).trans k1
        have k2 := (hb2.cell (p := ⟨cb, coff + q * 3 + 2, none⟩) hlt).trans k2
        have hca : rowAt vs q = some (vs.getD q default) := by unfold rowAt; rw [if_pos (by rw [hrow.1]; omega)]; simp
        rw [hca] at H
        generalize vs.getD q default = y at *
        obtain ⟨y0, y1, y2⟩ := y
        have hq1 : (q : Int) < (n : Int) := hc.2
        have hq2 : q < n := by omega
        simp only at k0 k1 k2
        clear hca hcell hrow hc
        go_wp2_with (go_at_call 31; refine (require_ok _ _).mono ?_; rintro e w' ⟨rfl, rfl⟩)
        refine bodyPost_ret (v := (Vl.mk y0 y1 y2).val) (by simp [results, Try.results22, go_sem, Vl.val, z0, z1, z2]) rfl ⟨by rw [H.out]; rfl, below_set3 hb2 (by omega) _ _ _⟩
      · have hca : rowAt vs col = none := by unfold rowAt; rw [if_neg (by rw [hrow.1]; omega)]
        rw [hca] at H
        clear hca
        by_cases h0 : 0 ≤ col
        · have hd : decide (0 ≤ col) = true := by simpa using h0
          have hd2 : decide (col < n) = false := by simp; omega
          clear hc h0 hrow
          go_wp2_with (go_at_call 31; refine (require_no _ _).mono ?_; rintro e w' ⟨rfl, rfl⟩)
          exact ⟨rfl, by rw [H.out]; exact fails4, hb2⟩
        · have hd : decide (0 ≤ col) = false := by simp; omega
          clear hc h0 hrow
          go_wp2_with (go_at_call 31; refine (require_no _ _).mono ?_; rintro e w' ⟨rfl, rfl⟩)
          exact ⟨rfl, by rw [H.out]; exact fails4, hb2⟩
    rw [if_neg h2] at H
    have h2' : (op == 2) = false := by simpa using h2
    have hp0 : 0 < p := by unfold hasOps at hop; rw [if_neg (by omega)] at hop; repeat' split at hop <;> simp at hop <;> omega
    obtain ⟨ab, aoff, rfl, alt, acell⟩ := harg hp0
    have a0 := (acell 0 hp0).1.below hb2 alt
    have i0 := (acell 0 hp0).2.below hb2
    have k2 := hrow.below hb2
    have ih0 := ih 0 w2 A n cap vs i0 k2 hn
    obtain ⟨e0, e1, e2, e3, e4, e5⟩ := a0
    simp only [Nat.zero_mul, Nat.add_zero] at e0 e1 e2 e3 e4 e5
    have hp0' : (0 : Int) < (p : Int) := by omega
    by_cases h7 : op = 7
    · subst h7
      rw [if_pos rfl] at H
      clear ih acell hrow
      cases hk : valE vs (arg 0) with
      | none =>
        rw [hk] at ih0 H
        clear hk
        go_wp2_with fail
        refine ih0.mono ?_
        rintro e w3 ⟨⟨r, hr, rfl⟩, b3⟩
        go_wp2_with fail
        exact ⟨rfl, by rw [H.out]; exact ⟨r, hr, rfl⟩, below_in hb2 b3⟩
      | some x =>
        rw [hk, Option.bind_some] at H
        rw [hk] at ih0
        clear hk
        have hq := not_any x
        cases ht : notV x with
        | none =>
          rw [ht] at H hq
          clear ht
          go_wp2_with fail
          refine ih0.mono ?_
          rintro e w3 ⟨rfl, b3⟩
          have hb3 := below_in hb2 b3
          go_wp2_with fail
          refine (hq _).mono ?_
          rintro e w4 ⟨⟨r, hr, rfl⟩, b4⟩
          go_wp2_with fail
          exact ⟨rfl, by rw [H.out]; exact ⟨r, hr, rfl⟩, below_in hb3 b4⟩
        | some y =>
          rw [ht] at H hq
          clear ht
          obtain ⟨y0, y1, y2⟩ := y
          go_wp2_with fail
          refine ih0.mono ?_
          rintro e w3 ⟨rfl, b3⟩
          have hb3 := below_in hb2 b3
          have hZ3 := hZ2.below b3 hZ2.lt
          go_wp2_with fail
          refine (hq _).mono ?_
          rintro e w4 ⟨rfl, b4⟩
          have hb4 := below_in hb3 b4
          obtain ⟨z0, z1, z2, g0, g1, g2⟩ := (hZ3.below b4 hZ3.lt).three
          simp only [Vl.val]
          go_wp2_with fail
          refine bodyPost_ret (v := (Vl.mk y0 y1 y2).val) (by simp [results, Try.results22, go_sem, Vl.val, z0, z1, z2]) rfl ⟨by rw [H.out]; rfl, below_set3 hb4 (by omega) _ _ _⟩
    rw [if_neg h7] at H
    have h7' : (op == 7) = false := by simpa using h7
    by_cases h8 : op = 8
    · subst h8
      rw [if_pos rfl] at H
      clear ih acell hrow
      cases hk : valE vs (arg 0) with
      | none =>
        rw [hk] at ih0 H
        clear hk
        go_wp2_with fail
        refine ih0.mono ?_
        rintro e w3 ⟨⟨r, hr, rfl⟩, b3⟩
        go_wp2_with fail
        exact ⟨rfl, by rw [H.out]; exact ⟨r, hr, rfl⟩, below_in hb2 b3⟩
      | some x =>
        rw [hk, Option.map_some] at H
        rw [hk] at ih0
        clear hk
        have hq := isNull_any x
        generalize decide (x.kind = 0) = q at *
        go_wp2_with fail
        refine ih0.mono ?_
        rintro e w3 ⟨rfl, b3⟩
        have hb3 := below_in hb2 b3
        have hZ3 := hZ2.below b3 hZ2.lt
        go_wp2_with fail
        refine (hq _).mono ?_
        rintro e w4 ⟨rfl, b4⟩
        have hb4 := below_in hb3 b4
        have hZ4 := hZ3.below b4 hZ3.lt
        cases q
        all_goals
          go_wp2_with fail
          refine (truth_any _ _).mono ?_
          rintro e w5 ⟨rfl, b5⟩
          have hb5 := below_in hb4 b5
          obtain ⟨z0, z1, z2, g0, g1, g2⟩ := (hZ4.below b5 hZ4.lt).three
          simp only [truthV, Vl.val]
          go_wp2_with fail
          refine bodyPost_ret (v := (truthV _).val) (by simp [results, Try.results22, go_sem, Vl.val, truthV, z0, z1, z2]; rfl) rfl ⟨by rw [H.out]; rfl, below_set3 hb5 (by omega) _ _ _⟩
    rw [if_neg h8] at H
    have h8' : (op == 8) = false := by simpa using h8
    have hp2 : p = 2 := two_of hop h1 h2 h7 h8
    subst hp2
    have a1 := (acell 1 (by omega)).1.below hb2 alt
    have i1 := (acell 1 (by omega)).2.below hb2
    obtain ⟨d0, d1, d2, d3, d4, d5⟩ := a1
    simp only [Nat.one_mul] at d0 d1 d2 d3 d4 d5
    have ih1 := fun w3 (b3 : Below w2.heap.size w2 w3) => ih 1 w3 A n cap vs (i1.below b3) (k2.below b3) hn
    have ih0 := fun w3 (b3 : Below w2.heap.size w2 w3) => ih 0 w3 A n cap vs (i0.below b3) (k2.below b3) hn
    clear ih acell hrow harg z0 z1 z2 g0 g1 g2
    go_wp2_with fail
    refine wp_region_held_drew (S := fun w' => w'.cell? ⟨w.heap.size, 0, none⟩ = some (.int .i64 op) ∧ w'.cell? ⟨w.heap.size, 5, none⟩ = some (.slice (some ⟨ab, aoff, none⟩) 2 cp) ∧
      w'.cell? ⟨ab, aoff, none⟩ = some (.int .i64 (arg 0).op) ∧ w'.cell? ⟨ab, aoff + 1, none⟩ = some (.int .i64 (arg 0).col) ∧ w'.cell? ⟨ab, aoff + 2, none⟩ = some (.int .i64 (arg 0).v.kind) ∧ w'.cell? ⟨ab, aoff + 3, none⟩ = some (.int .i64 (arg 0).v.num) ∧
      w'.cell? ⟨ab, aoff + 4, none⟩ = some (.string ⟨(arg 0).v.text.toArray⟩) ∧ w'.cell? ⟨ab, aoff + 5, none⟩ = some (.slice (arg 0).A (arg 0).n (arg 0).cap) ∧
      w'.cell? ⟨ab, aoff + 6, none⟩ = some (.int .i64 (arg 1).op) ∧ w'.cell? ⟨ab, aoff + 6 + 1, none⟩ = some (.int .i64 (arg 1).col) ∧ w'.cell? ⟨ab, aoff + 6 + 2, none⟩ = some (.int .i64 (arg 1).v.kind) ∧ w'.cell? ⟨ab, aoff + 6 + 3, none⟩ = some (.int .i64 (arg 1).v.num) ∧
      w'.cell? ⟨ab, aoff + 6 + 4, none⟩ = some (.string ⟨(arg 1).v.text.toArray⟩) ∧ w'.cell? ⟨ab, aoff + 6 + 5, none⟩ = some (.slice (arg 1).A (arg 1).n (arg 1).cap)) (by kernel_rfl) ?_ (fun hS => ?_)
    · exact ⟨c0, c5, e0, e1, e2, e3, e4, e5, d0, d1, d2, d3, d4, d5⟩
    refine take_at (i := 0) (v := ?_) rfl rfl (by kernel_rfl) (by kernel_rfl) (by kernel_rfl) (fun _ _ _ h => h) (by rfl) hS ?_ ?_
    rotate_left
    · intro w' hw
      obtain ⟨c0, c5, e0, e1, e2, e3, e4, e5, d0, d1, d2, d3, d4, d5⟩ := hw
      go_simp
      try with_reducible rfl
    try simp only [List.setIfInBounds_toArray, List.set_cons_zero, List.set_cons_succ]
    refine take_at (i := 1) (v := ?_) rfl rfl (by kernel_rfl) (by kernel_rfl) (by kernel_rfl) (fun _ _ _ h => h) (by rfl) hS ?_ ?_
    rotate_left
    · intro w' hw
      obtain ⟨c0, c5, e0, e1, e2, e3, e4, e5, d0, d1, d2, d3, d4, d5⟩ := hw
      go_simp
      try with_reducible rfl
    try simp only [List.setIfInBounds_toArray, List.set_cons_zero, List.set_cons_succ]
    refine take_at (i := 2) (v := ?_) rfl rfl (by kernel_rfl) (by kernel_rfl) (by kernel_rfl) (fun _ _ _ h => h) (by rfl) hS ?_ ?_
    rotate_left
    · intro w' hw
      obtain ⟨c0, c5, e0, e1, e2, e3, e4, e5, d0, d1, d2, d3, d4, d5⟩ := hw
      go_simp
      try with_reducible rfl
    try simp only [List.setIfInBounds_toArray, List.set_cons_zero, List.set_cons_succ]
    refine take_at (i := 3) (v := ?_) rfl rfl (by kernel_rfl) (by kernel_rfl) (by kernel_rfl) (fun _ _ _ h => h) (by rfl) hS ?_ ?_
    rotate_left
    · intro w' hw
      obtain ⟨c0, c5, e0, e1, e2, e3, e4, e5, d0, d1, d2, d3, d4, d5⟩ := hw
      go_simp
      try with_reducible rfl
    try simp only [List.setIfInBounds_toArray, List.set_cons_zero, List.set_cons_succ]
    refine take_at (i := 4) (v := ?_) rfl rfl (by kernel_rfl) (by kernel_rfl) (by kernel_rfl) (fun _ _ _ h => h) (by rfl) hS ?_ ?_
    rotate_left
    · intro w' hw
      obtain ⟨c0, c5, e0, e1, e2, e3, e4, e5, d0, d1, d2, d3, d4, d5⟩ := hw
      go_simp
      try with_reducible rfl
    try simp only [List.setIfInBounds_toArray, List.set_cons_zero, List.set_cons_succ]
    refine take_at (i := 5) (v := ?_) rfl rfl (by kernel_rfl) (by kernel_rfl) (by kernel_rfl) (fun _ _ _ h => h) (by rfl) hS ?_ ?_
    rotate_left
    · intro w' hw
      obtain ⟨c0, c5, e0, e1, e2, e3, e4, e5, d0, d1, d2, d3, d4, d5⟩ := hw
      go_simp
      try with_reducible rfl
    try simp only [List.setIfInBounds_toArray, List.set_cons_zero, List.set_cons_succ]
    refine take_at (i := 6) (v := ?_) rfl rfl (by kernel_rfl) (by kernel_rfl) (by kernel_rfl) (fun _ _ _ h => h) (by rfl) hS ?_ ?_
    rotate_left
    · intro w' hw
      obtain ⟨c0, c5, e0, e1, e2, e3, e4, e5, d0, d1, d2, d3, d4, d5⟩ := hw
      go_simp
      try with_reducible rfl
    try simp only [List.setIfInBounds_toArray, List.set_cons_zero, List.set_cons_succ]
    refine take_at (i := 8) (v := ?_) rfl rfl (by kernel_rfl) (by kernel_rfl) (by kernel_rfl) (fun _ _ _ h => h) (by rfl) hS ?_ ?_
    rotate_left
    · intro w' hw
      obtain ⟨c0, c5, e0, e1, e2, e3, e4, e5, d0, d1, d2, d3, d4, d5⟩ := hw
      go_simp
      try with_reducible rfl
    try simp only [List.setIfInBounds_toArray, List.set_cons_zero, List.set_cons_succ]
    refine take_at (i := 9) (v := ?_) rfl rfl (by kernel_rfl) (by kernel_rfl) (by kernel_rfl) (fun _ _ _ h => h) (by rfl) hS ?_ ?_
    rotate_left
    · intro w' hw
      obtain ⟨c0, c5, e0, e1, e2, e3, e4, e5, d0, d1, d2, d3, d4, d5⟩ := hw
      go_simp
      try with_reducible rfl
    try simp only [List.setIfInBounds_toArray, List.set_cons_zero, List.set_cons_succ]
    refine take_at (i := 10) (v := ?_) rfl rfl (by kernel_rfl) (by kernel_rfl) (by kernel_rfl) (fun _ _ _ h => h) (by rfl) hS ?_ ?_
    rotate_left
    · intro w' hw
      obtain ⟨c0, c5, e0, e1, e2, e3, e4, e5, d0, d1, d2, d3, d4, d5⟩ := hw
      go_simp
      try with_reducible rfl
    try simp only [List.setIfInBounds_toArray, List.set_cons_zero, List.set_cons_succ]
    refine take_at (i := 11) (v := ?_) rfl rfl (by kernel_rfl) (by kernel_rfl) (by kernel_rfl) (fun _ _ _ h => h) (by rfl) hS ?_ ?_
    rotate_left
    · intro w' hw
      obtain ⟨c0, c5, e0, e1, e2, e3, e4, e5, d0, d1, d2, d3, d4, d5⟩ := hw
      go_simp
      try with_reducible rfl
    try simp only [List.setIfInBounds_toArray, List.set_cons_zero, List.set_cons_succ]
    refine take_at (i := 12) (v := ?_) rfl rfl (by kernel_rfl) (by kernel_rfl) (by kernel_rfl) (fun _ _ _ h => h) (by rfl) hS ?_ ?_
    rotate_left
    · intro w' hw
      obtain ⟨c0, c5, e0, e1, e2, e3, e4, e5, d0, d1, d2, d3, d4, d5⟩ := hw
      go_simp
      try with_reducible rfl
    try simp only [List.setIfInBounds_toArray, List.set_cons_zero, List.set_cons_succ]
    have keep : ∀ w3, Below w2.heap.size w2 w3 → w3.cell? ⟨w.heap.size, 0, none⟩ = some (.int .i64 op) ∧ w3.cell? ⟨w.heap.size, 5, none⟩ = some (.slice (some ⟨ab, aoff, none⟩) 2 cp) ∧
      w3.cell? ⟨ab, aoff, none⟩ = some (.int .i64 (arg 0).op) ∧ w3.cell? ⟨ab, aoff + 1, none⟩ = some (.int .i64 (arg 0).col) ∧ w3.cell? ⟨ab, aoff + 2, none⟩ = some (.int .i64 (arg 0).v.kind) ∧ w3.cell? ⟨ab, aoff + 3, none⟩ = some (.int .i64 (arg 0).v.num) ∧
      w3.cell? ⟨ab, aoff + 4, none⟩ = some (.string ⟨(arg 0).v.text.toArray⟩) ∧ w3.cell? ⟨ab, aoff + 5, none⟩ = some (.slice (arg 0).A (arg 0).n (arg 0).cap) ∧
      w3.cell? ⟨ab, aoff + 6, none⟩ = some (.int .i64 (arg 1).op) ∧ w3.cell? ⟨ab, aoff + 6 + 1, none⟩ = some (.int .i64 (arg 1).col) ∧ w3.cell? ⟨ab, aoff + 6 + 2, none⟩ = some (.int .i64 (arg 1).v.kind) ∧ w3.cell? ⟨ab, aoff + 6 + 3, none⟩ = some (.int .i64 (arg 1).v.num) ∧
      w3.cell? ⟨ab, aoff + 6 + 4, none⟩ = some (.string ⟨(arg 1).v.text.toArray⟩) ∧ w3.cell? ⟨ab, aoff + 6 + 5, none⟩ = some (.slice (arg 1).A (arg 1).n (arg 1).cap) := fun w3 b3 => by
      have alt' : ab < w2.heap.size := Nat.lt_of_lt_of_le alt hb2.size
      exact ⟨(b3.cell (p := ⟨_, _, none⟩) hA2.lt).trans c0, (b3.cell (p := ⟨_, _, none⟩) hA2.lt).trans c5, (b3.cell (p := ⟨_, _, none⟩) alt').trans e0, (b3.cell (p := ⟨_, _, none⟩) alt').trans e1, (b3.cell (p := ⟨_, _, none⟩) alt').trans e2, (b3.cell (p := ⟨_, _, none⟩) alt').trans e3, (b3.cell (p := ⟨_, _, none⟩) alt').trans e4, (b3.cell (p := ⟨_, _, none⟩) alt').trans e5,
        (b3.cell (p := ⟨_, _, none⟩) alt').trans d0, (b3.cell (p := ⟨_, _, none⟩) alt').trans d1, (b3.cell (p := ⟨_, _, none⟩) alt').trans d2, (b3.cell (p := ⟨_, _, none⟩) alt').trans d3, (b3.cell (p := ⟨_, _, none⟩) alt').trans d4, (b3.cell (p := ⟨_, _, none⟩) alt').trans d5⟩
    clear c0 c1 c2 c3 c4 c5 e0 e1 e2 e3 e4 e5 d0 d1 d2 d3 d4 d5
    refine only_at (i := 7) rfl (by kernel_rfl) (by rfl) (fun K hK => ?_)
    go_simp
    refine (ih0 _ (Below.refl _ _).drew).mono ?_
    clear hS
    intro e w3 he
    obtain ⟨he, b3⟩ := he
    have b3' : Below w2.heap.size w2 w3 := below_in (Below.refl _ _).drew b3
    cases hk : valE vs (arg 0) with
    | none =>
      rw [hk] at he H
      obtain ⟨r, hr, rfl⟩ := he
      exact ⟨rfl, by rw [H.out]; exact ⟨r, hr, rfl⟩, below_in hb2 b3'⟩
    | some xa =>
    rw [hk] at he
    rw [hk, Option.bind_some] at H
    clear hk
    obtain rfl := he
    go_simp
    refine hK.out _ _ (keep _ b3') (fun hS => ?_)
    clear hK K
    try simp only [Act.put, List.setIfInBounds_toArray, List.set_cons_zero, List.set_cons_succ]
    refine only_at (i := 13) rfl (by kernel_rfl) (by rfl) (fun K hK => ?_)
    go_simp
    refine (ih1 _ b3').mono ?_
    clear hS
    intro e w4 he
    obtain ⟨he, b4⟩ := he
    have b4' : Below w2.heap.size w2 w4 := below_in b3' b4
    cases hk : valE vs (arg 1) with
    | none =>
      rw [hk] at he H
      obtain ⟨r, hr, rfl⟩ := he
      exact ⟨rfl, by rw [H.out]; exact ⟨r, hr, rfl⟩, below_in hb2 b4'⟩
    | some xb =>
    rw [hk] at he
    rw [hk, Option.bind_some] at H
    clear hk
    obtain rfl := he
    go_simp
    refine hK.out _ _ (keep _ b4') (fun hS => ?_)
    clear hK K
    try simp only [Act.put, List.setIfInBounds_toArray, List.set_cons_zero, List.set_cons_succ]
    refine only_at (i := 14) rfl (by kernel_rfl) (by rfl) (fun K hK => ?_)
    go_simp
    refine (pair_any _ _ _ _).mono ?_
    clear hS
    intro e w5 he
    obtain ⟨he, b5⟩ := he
    have b5' : Below w2.heap.size w2 w5 := below_in b4' b5
    cases hk : pairV op xa xb with
    | none =>
      rw [hk] at he H
      obtain ⟨r, hr, rfl⟩ := he
      exact ⟨rfl, by rw [H.out]; exact ⟨r, hr, rfl⟩, below_in hb2 b5'⟩
    | some x =>
    rw [hk] at he
    rw [hk] at H
    clear hk
    obtain rfl := he
    obtain ⟨x0, x1, x2⟩ := x
    simp only [Vl.val]
    go_simp
    refine hK.out _ _ (keep _ b5') (fun hS => ?_)
    clear hK K
    try simp only [Act.put, List.setIfInBounds_toArray, List.set_cons_zero, List.set_cons_succ]
    obtain ⟨z0, z1, z2, g0, g1, g2⟩ := (hZ2.below b5' hZ2.lt).three
    have hb5 := below_in hb2 b5'
    refine only_at (i := 15) rfl (by kernel_rfl) (by rfl) (fun K hK => ?_)
    go_simp
    refine hK.out _ _ ?_ (fun hS => ?_)
    · have n1 : ¬ (w.heap.size + 1 = w.heap.size) := by omega
      have n2 : ¬ (w.heap.size + 1 = ab) := by omega
      simpa [World.cell?_setCell_far, n1, n2] using hS
    clear hK K
    try simp only [Act.put, List.setIfInBounds_toArray, List.set_cons_zero, List.set_cons_succ]
    refine wpAnyH_done (by kernel_rfl) ?_ _
    clear hS
    go_wp2_with fail
    refine bodyPost_ret (v := (Vl.mk x0 x1 x2).val) (by simp [results, Try.results22, go_sem, Vl.val, z0, z1, z2]) rfl ⟨by rw [H.out]; rfl, below_set3 hb5 (by omega) _ _ _⟩
end Go.Proofs.Ytfgmhilmjkpeeaa
