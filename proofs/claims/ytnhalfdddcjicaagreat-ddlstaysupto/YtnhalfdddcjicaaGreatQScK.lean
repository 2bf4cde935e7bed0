/- Kind, its errors told: the walks of kindOf, finish and Kind again, and of the reference's Kind. -/
import Derived.Test.YtnhalfdddcjicaaGreatQJah
import Derived.Test.YtnhalfdddcjicaaGreatQExJ
namespace Go.Proofs.YtnhalfdddcjicaaGreat
open Go.RowKit

def toQ : Option Int → Except Int Int
  | some k => .ok k
  | none => .error 9
def colQ (cols : List Int) (c : Int) : Except Int Int := if 0 ≤ c ∧ c < cols.length then .ok (cols.getD c.toNat 0) else .error 4
/-- An expression's kind, or the error of it. -/
def kindQ (cols : List Int) : Ex → Except Int Int
  | .nil => .error 4
  | .mk op col v _ n _ arg =>
    if hasOps op n = false then .error 4
    else if unused op col v = false then .error 4
    else if op = 1 then (if goodV v = true then .ok v.kind else .error 4)
    else if op = 2 then colQ cols col
    else if op = 7 then (kindQ cols (arg 0)).bind fun k => if truthK k = true then .ok 1 else .error 9
    else if op = 8 then (kindQ cols (arg 0)).map fun _ => 1
    else (kindQ cols (arg 0)).bind fun a => (kindQ cols (arg 1)).bind fun b => toQ (pairK op a b)
def EndQ (r : Except Int Int) (e : Ending) : Prop :=
  match r with
  | .ok k => e = .returned (.int .i64 k)
  | .error z => e = .panicked (ab z)
def EndU9 (b : Bool) (e : Ending) : Prop := if b = true then e = .returned (.tuple #[]) else e = .panicked (ab 9)
/-- What Kind hands back. -/
def EndQE (r : Except Int Int) (e : Ending) : Prop := match r with | .ok k => e = .returned (.tuple #[.int .i64 k, .int .i64 0]) | .error z => e = .returned (.tuple #[.int .i64 0, .int .i64 z])
def kindL (ks : List Int) (e : Ex) : Except Int Int := if leftE e 24 8 < 0 then .error 3 else kindQ ks e
theorem ex_bind (a : Int) (f : Int → Except Int Int) : (Except.ok a : Except Int Int).bind f = f a := rfl
theorem ex_map (a : Int) (f : Int → Int) : (Except.ok a : Except Int Int).map f = .ok (f a) := rfl

set_option maxHeartbeats 400000 in
theorem reqQ_any (k : Int) (w : World) : Calls Tryz.prog 133 #[.int .i64 k] w fun e w' => EndU9 (truthK k) e ∧ w = w' := by
  cases h : truthK k with
  | true =>
    rw [truthK_iff] at h
    rcases h with rfl | rfl
    all_goals
      go_enter Tryz.func133, Tryz.ntmps133
      go_wp2_with (go_at_call 129; refine (require_ok _ _).mono ?_; rintro e w' ⟨rfl, rfl⟩)
      go_end0
      exact ⟨rfl, rfl⟩
  | false =>
    have h1 : (k == 1) = false := by unfold truthK at h; simp at h ⊢; omega
    have h0 : (k == 0) = false := by unfold truthK at h; simp at h ⊢; omega
    clear h
    go_enter Tryz.func133, Tryz.ntmps133
    go_wp2_with (go_at_call 129; refine (require_no _ _).mono ?_; rintro e w' ⟨rfl, rfl⟩)
    exact ⟨rfl, rfl, rfl⟩

set_option maxHeartbeats 400000 in
theorem commonQ_any (a b : Int) (w : World) : Calls Tryz.prog 141 #[.int .i64 a, .int .i64 b] w fun e w' => EndQ (toQ (commonK a b)) e ∧ w = w' := by
  have H : Hid (commonK a b = if a = 0 then some b else if a = b ∨ b = 0 then some a else none) := rfl
  by_cases h0 : a = 0
  · subst h0
    go_enter Tryz.func141, Tryz.ntmps141
    go_wp2_with fail
    go_ret
    exact ⟨by rw [H.out]; rfl, rfl⟩
  have h0' : (a == 0) = false := by simpa using h0
  by_cases h1 : a = b
  · subst h1
    go_enter Tryz.func141, Tryz.ntmps141
    go_wp2_with (go_at_call 129; refine (require_ok _ _).mono ?_; rintro e w' ⟨rfl, rfl⟩)
    go_ret
    exact ⟨by rw [H.out]; simp [h0, EndQ, toQ], rfl⟩
  have h1' : (a == b) = false := by simpa using h1
  by_cases h2 : b = 0
  · subst h2
    go_enter Tryz.func141, Tryz.ntmps141
    go_wp2_with (go_at_call 129; refine (require_ok _ _).mono ?_; rintro e w' ⟨rfl, rfl⟩)
    go_ret
    exact ⟨by rw [H.out]; simp [h0, EndQ, toQ], rfl⟩
  have h2' : (b == 0) = false := by simpa using h2
  go_enter Tryz.func141, Tryz.ntmps141
  go_wp2_with (go_at_call 129; refine (require_no _ _).mono ?_; rintro e w' ⟨rfl, rfl⟩)
  exact ⟨rfl, by rw [H.out]; simp [h0, h1, h2, EndQ, toQ], rfl⟩

set_option maxHeartbeats 1600000 in
theorem pairQ_any (op a b : Int) (w : World) : Calls Tryz.prog 134 #[.int .i64 op, .int .i64 a, .int .i64 b] w fun e w' => EndQ (toQ (pairK op a b)) e ∧ w = w' := by
  have H : Hid (pairK op a b = if op = 5 ∨ op = 6 then (if truthK a = true ∧ truthK b = true then some 1 else none) else if op = 3 ∨ op = 4 then (commonK a b).map (fun _ => 1) else (commonK a b).bind fun k => if k = 3 then none else some k) := rfl
  have ra := reqQ_any a
  have rb := reqQ_any b
  have rc := commonQ_any a b
  by_cases h56 : op = 5 ∨ op = 6
  · cases ha : truthK a with
    | false =>
      rw [ha] at ra
      rcases h56 with rfl | rfl
      all_goals
        go_enter Tryz.func134, Tryz.ntmps134
        go_wp2_with (go_at_call 133; refine (ra _).mono ?_; rintro e w' ⟨rfl, rfl⟩)
        exact ⟨rfl, by rw [H.out]; simp [ha, EndQ, toQ], rfl⟩
    | true =>
      rw [ha] at ra
      cases hb : truthK b with
      | false =>
        rw [hb] at rb
        rcases h56 with rfl | rfl
        all_goals
          go_enter Tryz.func134, Tryz.ntmps134
          go_wp2_with fail
          refine (ra _).mono ?_
          rintro e w' ⟨rfl, rfl⟩
          go_wp2_with fail
          refine (rb _).mono ?_
          rintro e w' ⟨rfl, rfl⟩
          go_wp2_with fail
          exact ⟨rfl, by rw [H.out]; simp [ha, hb, EndQ, toQ], rfl⟩
      | true =>
        rw [hb] at rb
        rcases h56 with rfl | rfl
        all_goals
          go_enter Tryz.func134, Tryz.ntmps134
          go_wp2_with fail
          refine (ra _).mono ?_
          rintro e w' ⟨rfl, rfl⟩
          go_wp2_with fail
          refine (rb _).mono ?_
          rintro e w' ⟨rfl, rfl⟩
          go_wp2_with fail
          go_ret
          exact ⟨by rw [H.out]; simp [ha, hb, EndQ, toQ], rfl⟩
  have h5 : (op == 5) = false := by simp; omega
  have h6 : (op == 6) = false := by simp; omega
  by_cases h34 : op = 3 ∨ op = 4
  · cases hc : commonK a b with
    | none =>
      rw [hc] at rc
      rcases h34 with rfl | rfl
      all_goals
        go_enter Tryz.func134, Tryz.ntmps134
        go_wp2_with (go_at_call 141; refine (rc _).mono ?_; rintro e w' ⟨rfl, rfl⟩)
        exact ⟨rfl, by rw [H.out]; simp [hc, EndQ, toQ], rfl⟩
    | some k =>
      rw [hc] at rc
      rcases h34 with rfl | rfl
      all_goals
        go_enter Tryz.func134, Tryz.ntmps134
        go_wp2_with (go_at_call 141; refine (rc _).mono ?_; rintro e w' ⟨rfl, rfl⟩)
        go_ret
        exact ⟨by rw [H.out]; simp [hc, EndQ, toQ], rfl⟩
  have h3 : (op == 3) = false := by simp; omega
  have h4 : (op == 4) = false := by simp; omega
  cases hc : commonK a b with
  | none =>
    rw [hc] at rc
    go_enter Tryz.func134, Tryz.ntmps134
    go_wp2_with (go_at_call 141; refine (rc _).mono ?_; rintro e w' ⟨rfl, rfl⟩)
    exact ⟨rfl, by rw [H.out]; simp [hc, h56, h34, EndQ, toQ], rfl⟩
  | some k =>
    rw [hc] at rc
    by_cases hk : k = 3
    · subst hk
      go_enter Tryz.func134, Tryz.ntmps134
      go_wp2_with (first | (go_at_call 141; refine (rc _).mono ?_; rintro e w' ⟨rfl, rfl⟩) | (go_at_call 129; refine (require_no _ _).mono ?_; rintro e w' ⟨rfl, rfl⟩))
      exact ⟨rfl, by rw [H.out]; simp [hc, h56, h34, EndQ, toQ], rfl⟩
    · have hk' : (k != 3) = true := by simpa using hk
      go_enter Tryz.func134, Tryz.ntmps134
      go_wp2_with (first | (go_at_call 141; refine (rc _).mono ?_; rintro e w' ⟨rfl, rfl⟩) | (go_at_call 129; refine (require_ok _ _).mono ?_; rintro e w' ⟨rfl, rfl⟩))
      go_ret
      exact ⟨by rw [H.out]; simp [hc, h56, h34, hk, EndQ, toQ], rfl⟩
set_option maxRecDepth 100000 in
set_option maxHeartbeats 6400000 in
theorem kindOfQ_any (e : Ex) : ∀ (w : World) (A : Option Addr) (n cap : Nat) (ks : List Int), InE w e → Cols w A n ks → n ≤ maxLen →
    Calls Tryz.prog 118 #[e.val, .slice A n cap] w fun en w' => EndQ (kindQ ks e) en ∧ Below w.heap.size w w' := by
  induction e with
  | nil => intro w A n cap ks h; exact h.elim
  | mk op col v B p cp arg ih =>
    intro w A n cap ks hin hcols hn
    have ho := hasOperands_any (.mk op col v B p cp arg)
    have hu := unused_any (.mk op col v B p cp arg)
    have H : Hid (kindQ ks (.mk op col v B p cp arg) = if hasOps op p = false then .error 4 else if unused op col v = false then .error 4 else if op = 1 then (if goodV v = true then .ok v.kind else .error 4) else if op = 2 then colQ ks col
      else if op = 7 then (kindQ ks (arg 0)).bind fun k => if truthK k = true then .ok 1 else .error 9 else if op = 8 then (kindQ ks (arg 0)).map fun _ => 1 else (kindQ ks (arg 0)).bind fun a => (kindQ ks (arg 1)).bind fun b => toQ (pairK op a b)) := by rw [kindQ]; exact Lib.hid rfl
    rw [InE] at hin
    obtain ⟨-, hcol, hv, -, harg⟩ := hin
    have hvg := vgood_any v hv
    obtain ⟨vk, vn, vt⟩ := v
    simp only [Ex.val, Ex.op, Ex.col, Ex.v, Ex.A, Ex.n, Ex.cap, Vl.val] at ho hu hvg ⊢
    have hb := below_box w (.cells #[.int .i64 op, .int .i64 col, .int .i64 vk, .int .i64 vn, .string ⟨vt.toArray⟩, .slice B p cp] 67)
    have hA := At.fresh w 67 #[.int .i64 op, .int .i64 col, .int .i64 vk, .int .i64 vn, .string ⟨vt.toArray⟩, .slice B p cp]
    cases hop : hasOps op p with
    | false =>
      rw [hop, if_pos rfl] at H
      rw [hop] at ho
      clear hop ih harg hcols
      go_enter Tryz.func118, Tryz.ntmps118
      go_wp2_with fail
      refine (ho _).mono ?_
      rintro e w1 ⟨rfl, b1⟩
      go_wp2_with (go_at_call 129; refine (require_no _ _).mono ?_; rintro e w' ⟨rfl, rfl⟩)
      exact ⟨rfl, by rw [H.out]; rfl, below_in hb b1⟩
    | true =>
    rw [hop, if_neg (by simp)] at H
    rw [hop] at ho
    cases hun : unused op col ⟨vk, vn, vt⟩ with
    | false =>
      rw [hun, if_pos rfl] at H
      rw [hun] at hu
      clear hop hun ih harg hcols
      go_enter Tryz.func118, Tryz.ntmps118
      go_wp2_with fail
      refine (ho _).mono ?_
      rintro e w1 ⟨rfl, b1⟩
      have hb1 := below_in hb b1
      obtain ⟨c0, c1, c2, c3, c4, c5⟩ := (hA.below b1 hA.lt).six
      go_wp2_with fail
      refine (hu _).mono ?_
      rintro e w2 ⟨rfl, b2⟩
      go_wp2_with (go_at_call 129; refine (require_no _ _).mono ?_; rintro e w' ⟨rfl, rfl⟩)
      exact ⟨rfl, by rw [H.out]; rfl, below_in hb1 b2⟩
    | true =>
    rw [hun, if_neg (by simp)] at H
    rw [hun] at hu
    clear hun
    go_enter Tryz.func118, Tryz.ntmps118
    go_wp2_with fail
    refine (ho _).mono ?_
    rintro e w1 ⟨rfl, b1⟩
    have hb1 := below_in hb b1
    have hA1 := hA.below b1 hA.lt
    obtain ⟨c0, c1, c2, c3, c4, c5⟩ := hA1.six
    go_wp2_with fail
    refine (hu _).mono ?_
    rintro e w2 ⟨rfl, b2⟩
    clear c0 c1 c2 c3 c4 c5
    have hb2 := below_in hb1 b2
    have hA2 := hA1.below b2 hA1.lt
    clear hb1 hA1 b2 b1 hA ho hu
    obtain ⟨c0, c1, c2, c3, c4, c5⟩ := hA2.six
    go_wp2_with fail
    refine (require_ok _ _).mono ?_
    rintro e w' ⟨rfl, rfl⟩
    by_cases h1 : op = 1
    · subst h1
      rw [if_pos rfl] at H
      clear ih harg hcols
      go_wp2_with fail
      refine (hvg _).mono ?_
      rintro e w3 ⟨rfl, b3⟩
      have hb3 := below_in hb2 b3
      obtain ⟨c0, c1, c2, c3, c4, c5⟩ := (hA2.below b3 hA2.lt).six
      cases hg : goodV ⟨vk, vn, vt⟩ with
      | false =>
        rw [hg, if_neg (by simp)] at H
        clear hg
        go_wp2_with (go_at_call 129; refine (require_no _ _).mono ?_; rintro e w' ⟨rfl, rfl⟩)
        exact ⟨rfl, by rw [H.out]; rfl, hb3⟩
      | true =>
        rw [hg, if_pos rfl] at H
        clear hg
        go_wp2_with (go_at_call 129; refine (require_ok _ _).mono ?_; rintro e w' ⟨rfl, rfl⟩)
        go_ret
        exact ⟨by rw [H.out]; rfl, hb3⟩
    rw [if_neg h1] at H
    have h1' : (op == 1) = false := by simpa using h1
    by_cases h2 : op = 2
    · subst h2
      rw [if_pos rfl] at H
      clear ih harg
      by_cases hc : 0 ≤ col ∧ col < n
      · obtain ⟨q, rfl⟩ : ∃ q : Nat, col = q := ⟨col.toNat, by omega⟩
        obtain ⟨cb, coff, rfl, hlt, hcell⟩ := hcols.2 (by omega)
        have hcl := (hb2.cell (p := ⟨cb, coff + q * 6 + 1, none⟩) hlt).trans (hcell q (by omega))
        have hca : colQ ks q = .ok (ks.getD q 0) := by unfold colQ; rw [if_pos (by rw [hcols.1]; omega)]; simp
        rw [hca] at H
        generalize ks.getD q 0 = kk at *
        have hq1 : (q : Int) < (n : Int) := hc.2
        have hq2 : q < n := by omega
        clear hca hcell hcols hc
        go_wp2_with (go_at_call 129; refine (require_ok _ _).mono ?_; rintro e w' ⟨rfl, rfl⟩)
        go_ret
        exact ⟨by rw [H.out]; rfl, hb2⟩
      · have hca : colQ ks col = .error 4 := by unfold colQ; rw [if_neg (by rw [hcols.1]; omega)]
        rw [hca] at H
        clear hca
        by_cases h0 : 0 ≤ col
        · have hd : decide (0 ≤ col) = true := by simpa using h0
          have hd2 : decide (col < n) = false := by simp; omega
          clear hc h0 hcols
          go_wp2_with (go_at_call 129; refine (require_no _ _).mono ?_; rintro e w' ⟨rfl, rfl⟩)
          exact ⟨rfl, by rw [H.out]; rfl, hb2⟩
        · have hd : decide (0 ≤ col) = false := by simp; omega
          clear hc h0 hcols
          go_wp2_with (go_at_call 129; refine (require_no _ _).mono ?_; rintro e w' ⟨rfl, rfl⟩)
          exact ⟨rfl, by rw [H.out]; rfl, hb2⟩
    rw [if_neg h2] at H
    have h2' : (op == 2) = false := by simpa using h2
    have hp0 : 0 < p := by unfold hasOps at hop; rw [if_neg (by omega)] at hop; repeat' split at hop <;> simp at hop <;> omega
    obtain ⟨ab, aoff, rfl, alt, acell⟩ := harg hp0
    have a0 := (acell 0 hp0).1.below hb2 alt
    have i0 := (acell 0 hp0).2.below hb2
    have k2 := hcols.below hb2
    have ih0 := ih 0 w2 A n cap ks i0 k2 hn
    obtain ⟨e0, e1, e2, e3, e4, e5⟩ := a0
    simp only [Nat.zero_mul, Nat.add_zero] at e0 e1 e2 e3 e4 e5
    have hp0' : (0 : Int) < (p : Int) := by omega
    by_cases h7 : op = 7
    · subst h7
      rw [if_pos rfl] at H
      clear ih acell hcols
      cases hk : kindQ ks (arg 0) with
      | error r =>
        rw [hk] at ih0 H
        clear hk
        go_wp2_with fail
        refine ih0.mono ?_
        rintro e w3 ⟨rfl, b3⟩
        go_wp2_with fail
        exact ⟨rfl, by rw [H.out]; rfl, below_in hb2 b3⟩
      | ok ka =>
        rw [hk, ex_bind] at H
        rw [hk] at ih0
        clear hk
        have hq := reqQ_any ka
        cases ht : truthK ka with
        | false =>
          rw [ht, if_neg (by simp)] at H
          rw [ht] at hq
          clear ht
          go_wp2_with fail
          refine ih0.mono ?_
          rintro e w3 ⟨rfl, b3⟩
          go_wp2_with fail
          refine (hq _).mono ?_
          rintro e w4 ⟨rfl, rfl⟩
          go_wp2_with fail
          exact ⟨rfl, by rw [H.out]; rfl, below_in hb2 b3⟩
        | true =>
          rw [ht, if_pos rfl] at H
          rw [ht] at hq
          clear ht
          go_wp2_with fail
          refine ih0.mono ?_
          rintro e w3 ⟨rfl, b3⟩
          go_wp2_with fail
          refine (hq _).mono ?_
          rintro e w4 ⟨rfl, rfl⟩
          go_wp2_with fail
          go_ret
          exact ⟨by rw [H.out]; rfl, below_in hb2 b3⟩
    rw [if_neg h7] at H
    have h7' : (op == 7) = false := by simpa using h7
    by_cases h8 : op = 8
    · subst h8
      rw [if_pos rfl] at H
      clear ih acell hcols
      cases hk : kindQ ks (arg 0) with
      | error r =>
        rw [hk] at ih0 H
        clear hk
        go_wp2_with fail
        refine ih0.mono ?_
        rintro e w3 ⟨rfl, b3⟩
        go_wp2_with fail
        exact ⟨rfl, by rw [H.out]; rfl, below_in hb2 b3⟩
      | ok ka =>
        rw [hk, ex_map] at H
        rw [hk] at ih0
        clear hk
        go_wp2_with fail
        refine ih0.mono ?_
        rintro e w3 ⟨rfl, b3⟩
        go_wp2_with fail
        go_ret
        exact ⟨by rw [H.out]; rfl, below_in hb2 b3⟩
    rw [if_neg h8] at H
    have h8' : (op == 8) = false := by simpa using h8
    have hp2 : p = 2 := two_of hop h1 h2 h7 h8
    subst hp2
    have a1 := (acell 1 (by omega)).1.below hb2 alt
    have i1 := (acell 1 (by omega)).2.below hb2
    obtain ⟨d0, d1, d2, d3, d4, d5⟩ := a1
    simp only [Nat.one_mul] at d0 d1 d2 d3 d4 d5
    have ih1 := fun w3 (b3 : Below w2.heap.size w2 w3) => ih 1 w3 A n cap ks (i1.below b3) (k2.below b3) hn
    have ih0 := fun w3 (b3 : Below w2.heap.size w2 w3) => ih 0 w3 A n cap ks (i0.below b3) (k2.below b3) hn
    clear ih acell hcols harg
    go_wp2_with fail
    refine wp_region_held_drew (S := fun w' => Below w2.heap.size w2 w' ∧ w'.cell? ⟨w.heap.size, 0, none⟩ = some (.int .i64 op) ∧ w'.cell? ⟨w.heap.size, 5, none⟩ = some (.slice (some ⟨ab, aoff, none⟩) 2 cp) ∧
      w'.cell? ⟨ab, aoff, none⟩ = some (.int .i64 (arg 0).op) ∧ w'.cell? ⟨ab, aoff + 1, none⟩ = some (.int .i64 (arg 0).col) ∧ w'.cell? ⟨ab, aoff + 2, none⟩ = some (.int .i64 (arg 0).v.kind) ∧ w'.cell? ⟨ab, aoff + 3, none⟩ = some (.int .i64 (arg 0).v.num) ∧
      w'.cell? ⟨ab, aoff + 4, none⟩ = some (.string ⟨(arg 0).v.text.toArray⟩) ∧ w'.cell? ⟨ab, aoff + 5, none⟩ = some (.slice (arg 0).A (arg 0).n (arg 0).cap) ∧
      w'.cell? ⟨ab, aoff + 6, none⟩ = some (.int .i64 (arg 1).op) ∧ w'.cell? ⟨ab, aoff + 6 + 1, none⟩ = some (.int .i64 (arg 1).col) ∧ w'.cell? ⟨ab, aoff + 6 + 2, none⟩ = some (.int .i64 (arg 1).v.kind) ∧ w'.cell? ⟨ab, aoff + 6 + 3, none⟩ = some (.int .i64 (arg 1).v.num) ∧
      w'.cell? ⟨ab, aoff + 6 + 4, none⟩ = some (.string ⟨(arg 1).v.text.toArray⟩) ∧ w'.cell? ⟨ab, aoff + 6 + 5, none⟩ = some (.slice (arg 1).A (arg 1).n (arg 1).cap)) (by kernel_rfl) ?_ (fun hS => ?_)
    · exact ⟨(Below.refl _ _).drew, c0, c5, e0, e1, e2, e3, e4, e5, d0, d1, d2, d3, d4, d5⟩
    refine take_at (i := 0) (v := ?_) rfl rfl (by kernel_rfl) (by kernel_rfl) (by kernel_rfl) (fun _ _ _ h => h) (by rfl) hS ?_ ?_
    rotate_left
    · intro w' hw
      obtain ⟨-, c0, c5, e0, e1, e2, e3, e4, e5, d0, d1, d2, d3, d4, d5⟩ := hw
      go_simp
      try with_reducible rfl
    try simp only [List.setIfInBounds_toArray, List.set_cons_zero, List.set_cons_succ]
    refine take_at (i := 1) (v := ?_) rfl rfl (by kernel_rfl) (by kernel_rfl) (by kernel_rfl) (fun _ _ _ h => h) (by rfl) hS ?_ ?_
    rotate_left
    · intro w' hw
      obtain ⟨-, c0, c5, e0, e1, e2, e3, e4, e5, d0, d1, d2, d3, d4, d5⟩ := hw
      go_simp
      try with_reducible rfl
    try simp only [List.setIfInBounds_toArray, List.set_cons_zero, List.set_cons_succ]
    refine take_at (i := 2) (v := ?_) rfl rfl (by kernel_rfl) (by kernel_rfl) (by kernel_rfl) (fun _ _ _ h => h) (by rfl) hS ?_ ?_
    rotate_left
    · intro w' hw
      obtain ⟨-, c0, c5, e0, e1, e2, e3, e4, e5, d0, d1, d2, d3, d4, d5⟩ := hw
      go_simp
      try with_reducible rfl
    try simp only [List.setIfInBounds_toArray, List.set_cons_zero, List.set_cons_succ]
    refine take_at (i := 3) (v := ?_) rfl rfl (by kernel_rfl) (by kernel_rfl) (by kernel_rfl) (fun _ _ _ h => h) (by rfl) hS ?_ ?_
    rotate_left
    · intro w' hw
      obtain ⟨-, c0, c5, e0, e1, e2, e3, e4, e5, d0, d1, d2, d3, d4, d5⟩ := hw
      go_simp
      try with_reducible rfl
    try simp only [List.setIfInBounds_toArray, List.set_cons_zero, List.set_cons_succ]
    refine take_at (i := 4) (v := ?_) rfl rfl (by kernel_rfl) (by kernel_rfl) (by kernel_rfl) (fun _ _ _ h => h) (by rfl) hS ?_ ?_
    rotate_left
    · intro w' hw
      obtain ⟨-, c0, c5, e0, e1, e2, e3, e4, e5, d0, d1, d2, d3, d4, d5⟩ := hw
      go_simp
      try with_reducible rfl
    try simp only [List.setIfInBounds_toArray, List.set_cons_zero, List.set_cons_succ]
    refine take_at (i := 5) (v := ?_) rfl rfl (by kernel_rfl) (by kernel_rfl) (by kernel_rfl) (fun _ _ _ h => h) (by rfl) hS ?_ ?_
    rotate_left
    · intro w' hw
      obtain ⟨-, c0, c5, e0, e1, e2, e3, e4, e5, d0, d1, d2, d3, d4, d5⟩ := hw
      go_simp
      try with_reducible rfl
    try simp only [List.setIfInBounds_toArray, List.set_cons_zero, List.set_cons_succ]
    refine take_at (i := 6) (v := ?_) rfl rfl (by kernel_rfl) (by kernel_rfl) (by kernel_rfl) (fun _ _ _ h => h) (by rfl) hS ?_ ?_
    rotate_left
    · intro w' hw
      obtain ⟨-, c0, c5, e0, e1, e2, e3, e4, e5, d0, d1, d2, d3, d4, d5⟩ := hw
      go_simp
      try with_reducible rfl
    try simp only [List.setIfInBounds_toArray, List.set_cons_zero, List.set_cons_succ]
    refine take_at (i := 8) (v := ?_) rfl rfl (by kernel_rfl) (by kernel_rfl) (by kernel_rfl) (fun _ _ _ h => h) (by rfl) hS ?_ ?_
    rotate_left
    · intro w' hw
      obtain ⟨-, c0, c5, e0, e1, e2, e3, e4, e5, d0, d1, d2, d3, d4, d5⟩ := hw
      go_simp
      try with_reducible rfl
    try simp only [List.setIfInBounds_toArray, List.set_cons_zero, List.set_cons_succ]
    refine take_at (i := 9) (v := ?_) rfl rfl (by kernel_rfl) (by kernel_rfl) (by kernel_rfl) (fun _ _ _ h => h) (by rfl) hS ?_ ?_
    rotate_left
    · intro w' hw
      obtain ⟨-, c0, c5, e0, e1, e2, e3, e4, e5, d0, d1, d2, d3, d4, d5⟩ := hw
      go_simp
      try with_reducible rfl
    try simp only [List.setIfInBounds_toArray, List.set_cons_zero, List.set_cons_succ]
    refine take_at (i := 10) (v := ?_) rfl rfl (by kernel_rfl) (by kernel_rfl) (by kernel_rfl) (fun _ _ _ h => h) (by rfl) hS ?_ ?_
    rotate_left
    · intro w' hw
      obtain ⟨-, c0, c5, e0, e1, e2, e3, e4, e5, d0, d1, d2, d3, d4, d5⟩ := hw
      go_simp
      try with_reducible rfl
    try simp only [List.setIfInBounds_toArray, List.set_cons_zero, List.set_cons_succ]
    refine take_at (i := 11) (v := ?_) rfl rfl (by kernel_rfl) (by kernel_rfl) (by kernel_rfl) (fun _ _ _ h => h) (by rfl) hS ?_ ?_
    rotate_left
    · intro w' hw
      obtain ⟨-, c0, c5, e0, e1, e2, e3, e4, e5, d0, d1, d2, d3, d4, d5⟩ := hw
      go_simp
      try with_reducible rfl
    try simp only [List.setIfInBounds_toArray, List.set_cons_zero, List.set_cons_succ]
    refine take_at (i := 12) (v := ?_) rfl rfl (by kernel_rfl) (by kernel_rfl) (by kernel_rfl) (fun _ _ _ h => h) (by rfl) hS ?_ ?_
    rotate_left
    · intro w' hw
      obtain ⟨-, c0, c5, e0, e1, e2, e3, e4, e5, d0, d1, d2, d3, d4, d5⟩ := hw
      go_simp
      try with_reducible rfl
    try simp only [List.setIfInBounds_toArray, List.set_cons_zero, List.set_cons_succ]
    have keep : ∀ w3, Below w2.heap.size w2 w3 → w3.cell? ⟨w.heap.size, 0, none⟩ = some (.int .i64 op) ∧ w3.cell? ⟨w.heap.size, 5, none⟩ = some (.slice (some ⟨ab, aoff, none⟩) 2 cp) ∧
      w3.cell? ⟨ab, aoff, none⟩ = some (.int .i64 (arg 0).op) ∧ w3.cell? ⟨ab, aoff + 1, none⟩ = some (.int .i64 (arg 0).col) ∧ w3.cell? ⟨ab, aoff + 2, none⟩ = some (.int .i64 (arg 0).v.kind) ∧ w3.cell? ⟨ab, aoff + 3, none⟩ = some (.int .i64 (arg 0).v.num) ∧
      w3.cell? ⟨ab, aoff + 4, none⟩ = some (.string ⟨(arg 0).v.text.toArray⟩) ∧ w3.cell? ⟨ab, aoff + 5, none⟩ = some (.slice (arg 0).A (arg 0).n (arg 0).cap) ∧
      w3.cell? ⟨ab, aoff + 6, none⟩ = some (.int .i64 (arg 1).op) ∧ w3.cell? ⟨ab, aoff + 6 + 1, none⟩ = some (.int .i64 (arg 1).col) ∧ w3.cell? ⟨ab, aoff + 6 + 2, none⟩ = some (.int .i64 (arg 1).v.kind) ∧ w3.cell? ⟨ab, aoff + 6 + 3, none⟩ = some (.int .i64 (arg 1).v.num) ∧
      w3.cell? ⟨ab, aoff + 6 + 4, none⟩ = some (.string ⟨(arg 1).v.text.toArray⟩) ∧ w3.cell? ⟨ab, aoff + 6 + 5, none⟩ = some (.slice (arg 1).A (arg 1).n (arg 1).cap) := fun w3 b3 => by
      have alt' : ab < w2.heap.size := Nat.lt_of_lt_of_le alt hb2.size
      exact ⟨(b3.cell (p := ⟨_, _, none⟩) hA2.lt).trans c0, (b3.cell (p := ⟨_, _, none⟩) hA2.lt).trans c5, (b3.cell (p := ⟨_, _, none⟩) alt').trans e0, (b3.cell (p := ⟨_, _, none⟩) alt').trans e1, (b3.cell (p := ⟨_, _, none⟩) alt').trans e2, (b3.cell (p := ⟨_, _, none⟩) alt').trans e3, (b3.cell (p := ⟨_, _, none⟩) alt').trans e4, (b3.cell (p := ⟨_, _, none⟩) alt').trans e5,
        (b3.cell (p := ⟨_, _, none⟩) alt').trans d0, (b3.cell (p := ⟨_, _, none⟩) alt').trans d1, (b3.cell (p := ⟨_, _, none⟩) alt').trans d2, (b3.cell (p := ⟨_, _, none⟩) alt').trans d3, (b3.cell (p := ⟨_, _, none⟩) alt').trans d4, (b3.cell (p := ⟨_, _, none⟩) alt').trans d5⟩
    clear c0 c1 c2 c3 c4 c5 e0 e1 e2 e3 e4 e5 d0 d1 d2 d3 d4 d5
    refine only_at (i := 7) rfl (by kernel_rfl) (by rfl) (fun K hK => ?_)
    go_simp
    refine (ih0 _ hS.1).mono ?_
    clear hS
    intro e w3 he
    obtain ⟨he, b3⟩ := he
    have b3' : Below w2.heap.size w2 w3 := below_in (Below.refl _ _).drew b3
    cases hk : kindQ ks (arg 0) with
    | error r =>
      rw [hk] at he H
      obtain rfl := he
      exact ⟨rfl, by rw [H.out]; rfl, below_in hb2 b3'⟩
    | ok ka =>
    rw [hk] at he
    rw [hk, ex_bind] at H
    clear hk
    obtain rfl := he
    go_simp
    refine hK.out _ _ ⟨b3', keep _ b3'⟩ (fun hS => ?_)
    clear hK K
    try simp only [Act.put, List.setIfInBounds_toArray, List.set_cons_zero, List.set_cons_succ]
    refine only_at (i := 13) rfl (by kernel_rfl) (by rfl) (fun K hK => ?_)
    go_simp
    refine (ih1 _ hS.1).mono ?_
    clear hS
    intro e w4 he
    obtain ⟨he, b4⟩ := he
    have b4' : Below w2.heap.size w2 w4 := below_in b3' b4
    cases hk : kindQ ks (arg 1) with
    | error r =>
      rw [hk] at he H
      obtain rfl := he
      exact ⟨rfl, by rw [H.out]; rfl, below_in hb2 b4'⟩
    | ok kb =>
    rw [hk] at he
    rw [hk, ex_bind] at H
    clear hk
    obtain rfl := he
    go_simp
    refine hK.out _ _ ⟨b4', keep _ b4'⟩ (fun hS => ?_)
    clear hK K
    try simp only [Act.put, List.setIfInBounds_toArray, List.set_cons_zero, List.set_cons_succ]
    refine only_at (i := 14) rfl (by kernel_rfl) (by rfl) (fun K hK => ?_)
    go_simp
    refine (pairQ_any _ _ _ _).mono ?_
    intro e w5 he
    obtain ⟨he, rfl⟩ := he
    cases hk : pairK op ka kb with
    | none =>
      rw [hk] at he H
      obtain rfl := he
      exact ⟨rfl, by rw [H.out]; rfl, below_in hb2 b4'⟩
    | some k =>
    rw [hk] at he
    rw [hk] at H
    clear hk
    obtain rfl := he
    go_simp
    refine hK.out _ _ hS (fun hS => ?_)
    clear hK K
    try simp only [Act.put, List.setIfInBounds_toArray, List.set_cons_zero, List.set_cons_succ]
    refine only_at (i := 15) rfl (by kernel_rfl) (by rfl) (fun K hK => ?_)
    go_simp
    refine hK.out _ _ hS (fun hS => ?_)
    clear hK K
    try simp only [Act.put, List.setIfInBounds_toArray, List.set_cons_zero, List.set_cons_succ]
    refine wpAnyH_done (by kernel_rfl) ?_ _
    clear hS
    go_wp2_with fail
    go_ret
    exact ⟨by rw [H.out]; rfl, below_in hb2 b4'⟩
theorem finishQ (cap : Array Value) (r : Except Int Int) (w : World) (hG : ∀ w1 : World, Below w.heap.size w w1 → Calls Tryz.prog 117 cap w1 fun e w' => EndQ r e ∧ Below w1.heap.size w1 w') :
    Calls Tryz.prog 116 #[.func (.func 117) #[] cap] w fun e w' => EndQE r e ∧ Below w.heap.size w w' := by
  have hmf : ∀ (fn : Fn) (first cap : Array Value) (w : World), (Instr.makeFunc fn first cap).run Tryz.prog w = .ok (.func fn first cap) w := fun _ _ _ _ => rfl
  have hb := below_box w (.cells #[.int .i64 0] 38)
  have hA := At.fresh w 38 #[.int .i64 0]
  go_enter_defers Tryz.func116, Tryz.ntmps116
  go_wp2_with fail
  refine (hG _ hb).mono ?_
  intro e w2 he
  obtain ⟨he, b2⟩ := he
  have hb2 := below_in hb b2
  have hA2 := hA.below b2 hA.lt
  have hc : w2.cell? ⟨w.heap.size, 0, none⟩ = some (.int .i64 0) := hA2.cell 0
  have hz : w2.frozen? ⟨w.heap.size, 0, none⟩ = false := hA2.unfrozen 0
  cases r with
  | error z =>
    obtain rfl := he
    unfold ab
    go_wp2_with fail
    refine leaves_cons (f := 128) (args := #[.pointer (some ⟨w.heap.size, 0, none⟩)]) (by simp) (by simp [go_sem]) ?_
    refine (catchI_ab ⟨w.heap.size, 0, none⟩ z 0 [] _ hc hz).mono ?_
    rintro e u' w'' ⟨rfl, rfl, rfl⟩
    have hcell : (w2.setCell ⟨w.heap.size, 0, none⟩ (.int .i64 z)).cell? ⟨w.heap.size, 0, none⟩ = some (.int .i64 z) := (hA2.put 0 _).cell 0
    simp [Leaves, settle, results, Tryz.results116, go_sem, hcell]
    exact ⟨rfl, hb2.setCell (p := ⟨w.heap.size, 0, none⟩) (Nat.le_refl _) _⟩
  | ok k =>
    obtain rfl := he
    go_wp2_with fail
    refine leaves_cons (f := 128) (args := #[.pointer (some ⟨w.heap.size, 0, none⟩)]) (by simp) (by simp [go_sem]) ?_
    refine (catchI_idle ⟨w.heap.size, 0, none⟩ _).mono ?_
    rintro e u' w'' ⟨rfl, rfl, rfl⟩
    have hcell : (w2.setCell ⟨w.heap.size, 0, none⟩ (.int .i64 0)).cell? ⟨w.heap.size, 0, none⟩ = some (.int .i64 0) := (hA2.put 0 _).cell 0
    simp [Leaves, settle, results, Tryz.results116, go_sem, hcell]
    exact ⟨rfl, hb2.setCell (p := ⟨w.heap.size, 0, none⟩) (Nat.le_refl _) _⟩
theorem kindLQ_any (e : Ex) (A : Option Addr) (n cap : Nat) (ks : List Int) (g h : Nat) (w : World) (hin : InE w e) (hc : Cols w A n ks) (hn : n ≤ maxLen) (hE : CellsE w g 0 e) (hS : w.cell? ⟨h, 0, none⟩ = some (.slice A n cap)) :
    Calls Tryz.prog 117 #[.pointer (some ⟨g, 0, none⟩), .pointer (some ⟨h, 0, none⟩)] w fun en w' => EndQ (kindQ ks e) en ∧ Below w.heap.size w w' := by
  have hk := kindOfQ_any e w A n cap ks hin hc hn
  generalize kindQ ks e = r at hk ⊢
  unfold Ex.val at hk
  obtain ⟨c0, c1, c2, c3, c4, c5⟩ := hE
  simp only [Nat.zero_add] at c1 c2 c3 c4 c5
  go_enter Tryz.func117, Tryz.ntmps117
  go_wp2_with fail
  refine hk.mono ?_
  intro en w2 he
  obtain ⟨he, b2⟩ := he
  cases r with
  | error z =>
    obtain rfl := he
    go_wp2_with fail
    exact ⟨rfl, rfl, b2⟩
  | ok k =>
    obtain rfl := he
    go_wp2_with fail
    go_ret
    exact ⟨rfl, b2⟩

theorem KindQ_any (e : Ex) (A : Option Addr) (n cap : Nat) (ks : List Int) (w : World) (hin : InE w e) (hc : Cols w A n ks) (hn : n ≤ maxLen) :
    Calls Tryz.prog 95 #[e.val, .slice A n cap] w fun en w' => EndQE (kindL ks e) en ∧ Below w.heap.size w w' := by
  have hmf : ∀ (fn : Fn) (first cap : Array Value) (w : World), (Instr.makeFunc fn first cap).run Tryz.prog w = .ok (.func fn first cap) w := fun _ _ _ _ => rfl
  have hE0 := cellsE_fresh e w
  have hb0 := below_box w (.cells #[.int .i64 e.op, .int .i64 e.col, .int .i64 e.v.kind, .int .i64 e.v.num, .string ⟨e.v.text.toArray⟩, .slice e.A e.n e.cap] 67)
  have hlt : w.heap.size < (w.alloc (.cells #[.int .i64 e.op, .int .i64 e.col, .int .i64 e.v.kind, .int .i64 e.v.num, .string ⟨e.v.text.toArray⟩, .slice e.A e.n e.cap] 67)).heap.size := by simp
  have hsz : (w.alloc (.cells #[.int .i64 e.op, .int .i64 e.col, .int .i64 e.v.kind, .int .i64 e.v.num, .string ⟨e.v.text.toArray⟩, .slice e.A e.n e.cap] 67)).heap.size = w.heap.size + 1 := by simp
  have hS0 := At.fresh (w.alloc (.cells #[.int .i64 e.op, .int .i64 e.col, .int .i64 e.v.kind, .int .i64 e.v.num, .string ⟨e.v.text.toArray⟩, .slice e.A e.n e.cap] 67)) 29 #[.slice A n cap]
  have hb1 := below_box (w.alloc (.cells #[.int .i64 e.op, .int .i64 e.col, .int .i64 e.v.kind, .int .i64 e.v.num, .string ⟨e.v.text.toArray⟩, .slice e.A e.n e.cap] 67)) (.cells #[.slice A n cap] 29)
  have hE1 := hE0.below hb1 hlt
  have hb := below_in hb0 hb1
  rw [hsz] at hS0
  clear hb0 hb1 hE0
  generalize hW : (w.alloc (.cells #[.int .i64 e.op, .int .i64 e.col, .int .i64 e.v.kind, .int .i64 e.v.num, .string ⟨e.v.text.toArray⟩, .slice e.A e.n e.cap] 67)).alloc (.cells #[.slice A n cap] 29) = W at hb hS0 hE1
  have hl := isLong_any e W (hin.below hb)
  have H : Hid (kindL ks e = if leftE e 24 8 < 0 then .error 3 else kindQ ks e) := rfl
  generalize kindL ks e = kx at H ⊢
  have hgt : w.heap.size < W.heap.size := by have := hS0.lt; omega
  have hfin := fun w3 (b3 : Below W.heap.size W w3) => finishQ #[.pointer (some ⟨w.heap.size, 0, none⟩), .pointer (some ⟨w.heap.size + 1, 0, none⟩)] (kindQ ks e) w3 (fun w4 b4 =>
    kindLQ_any e A n cap ks w.heap.size (w.heap.size + 1) w4 (hin.below (below_in hb (below_in b3 b4))) (hc.below (below_in hb (below_in b3 b4))) hn (hE1.below (below_in b3 b4) hgt) ((hS0.below (below_in b3 b4) hS0.lt).cell 0))
  obtain ⟨c0, c1, c2, c3, c4, c5⟩ := hE1
  simp only [Nat.zero_add] at c1 c2 c3 c4 c5
  unfold Ex.val at *
  go_enter Tryz.func95, Tryz.ntmps95
  go_wp2_with fail
  refine hl.mono ?_
  rintro en w3 ⟨rfl, b3⟩
  have hb3 := below_in hb b3
  by_cases hlong : leftE e 24 8 < 0
  · rw [if_pos hlong] at H
    have hd : decide (leftE e 24 8 < 0) = true := by simpa using hlong
    rw [hd]
    clear hd hlong
    go_wp2_with fail
    refine bodyPost_ret (results_tmp2 rfl _ _ _) rfl ⟨by rw [H.out]; rfl, hb3⟩
  · rw [if_neg hlong] at H
    have hd : decide (leftE e 24 8 < 0) = false := by simpa using hlong
    rw [hd]
    clear hd hlong
    go_wp2_with fail
    refine (hfin _ b3).mono ?_
    intro en w4 he
    obtain ⟨he, b4⟩ := he
    have hb4 := below_in hb3 b4
    generalize kindQ ks e = r at he H
    cases r with
    | error z =>
      obtain rfl := he
      go_wp2_with fail
      refine bodyPost_ret (results_tmp2 rfl _ _ _) rfl ⟨by rw [H.out]; rfl, hb4⟩
    | ok k =>
      obtain rfl := he
      go_wp2_with fail
      refine bodyPost_ret (results_tmp2 rfl _ _ _) rfl ⟨by rw [H.out]; rfl, hb4⟩

end Go.Proofs.YtnhalfdddcjicaaGreat
