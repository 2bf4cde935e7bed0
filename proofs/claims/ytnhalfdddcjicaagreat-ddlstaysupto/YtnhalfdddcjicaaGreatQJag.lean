/- The walks of Good (package value, and the reference of layer 3), of numberKey and of the reference's eight. -/
/- The walks of package expr's small functions. -/
import Derived.Test.YtnhalfdddcjicaaGreatQJac
import Derived.Test.YtnhalfdddcjicaaGreatQJaf
import Derived.Test.YtnhalfdddcjicaaGreatQJaa
import Derived.Deep.QuietTactic
import Derived.Deep.LoopGhost
import Derived.BigQuiet
import Derived.Test.YtnhalfdddcjicaaGreatQJae
import Derived.Laws.StructEq
namespace Go.Proofs.YtnhalfdddcjicaaGreat
open Go.RowKit

theorem ret_s {a b : List UInt8} (h : a = b) : Ending.returned (.string ⟨a.toArray⟩) = .returned (.string ⟨b.toArray⟩) := by rw [h]
theorem below_in {w w1 w2 : World} (h : Below w.heap.size w w1) (k : Below w1.heap.size w1 w2) : Below w.heap.size w w2 := h.trans (k.mono h.size)
theorem below_nq {B : Nat} {x y : World} (h : Below B x y) (n : Nat) : Below B x (y.drewN n) := ⟨h.os, h.tape, h.output, h.size, h.block⟩
theorem below_box (w : World) (o : Obj) : Below w.heap.size w (w.alloc o) := (Below.refl _ _).alloc (Nat.le_refl _) _

set_option maxRecDepth 100000 in
set_option maxHeartbeats 1600000 in
theorem vgood_any (v : Vl) (hv : v.Ok) (w : World) :
    Calls Tryz.prog 132 #[v.val] w fun e w' => e = .returned (.bool (goodV v)) ∧ Below w.heap.size w w' := by
  obtain ⟨k, n, t⟩ := v
  have hG : Hid (goodV ⟨k, n, t⟩ = decide ((k = 0 ∧ n = 0 ∧ t = []) ∨ (k = 1 ∧ t = []) ∨ (k = 2 ∧ t = [] ∧ canonI (wordOf n) = n) ∨ (k = 3 ∧ n = 0 ∧ t.length ≤ 24))) := rfl
  have hb := below_box w (.cells #[.int .i64 k, .int .i64 n, .string ⟨t.toArray⟩] 27)
  have hm : t.length ≤ 9223372036854775807 := by have := hv.text; unfold maxLen at this; simp at this; omega
  show Calls _ _ #[.agg #[.int .i64 k, .int .i64 n, .string ⟨t.toArray⟩]] w _
  clear hv
  by_cases h0 : k = 0
  · subst h0
    cases hn : (n == 0) <;> cases t
    all_goals
      go_enter Tryz.func132, Tryz.ntmps132
      go_wp2
      go_ret
      exact ⟨ret_b (by rw [hG.out]; simp_all <;> omega), hb⟩
  by_cases h1 : k = 1
  · subst h1
    cases t
    all_goals
      go_enter Tryz.func132, Tryz.ntmps132
      go_wp2
      go_ret
      exact ⟨ret_b (by rw [hG.out]; simp), hb⟩
  by_cases h2 : k = 2
  · subst h2
    cases t
    all_goals
      go_enter Tryz.func132, Tryz.ntmps132
      go_wp2_with (go_at_call 140; refine (good_any _ _).mono ?_; rintro e w' ⟨rfl, rfl⟩)
      go_ret
      exact ⟨ret_b (by rw [hG.out]; simp [eq_comm, Bool.beq_eq_decide_eq]), hb⟩
  by_cases h3 : k = 3
  · subst h3
    by_cases hl : t.length ≤ 24
    all_goals
      cases hn : (n == 0)
      all_goals
        go_enter Tryz.func132, Tryz.ntmps132
        go_wp2
        go_ret
        exact ⟨ret_b (by rw [hG.out]; simp_all <;> omega), hb⟩
  · go_enter Tryz.func132, Tryz.ntmps132
    go_wp2
    go_ret
    exact ⟨ret_b (by rw [hG.out]; simp_all <;> omega), hb⟩

set_option maxRecDepth 100000 in
set_option maxHeartbeats 1600000 in
theorem rgood_any (v : Vl) (hv : v.Ok) (w : World) :
    Calls Tryz.prog 110 #[v.val] w fun e w' => e = .returned (.bool (goodV v)) ∧ Below w.heap.size w w' := by
  obtain ⟨k, n, t⟩ := v
  have hG : Hid (goodV ⟨k, n, t⟩ = decide ((k = 0 ∧ n = 0 ∧ t = []) ∨ (k = 1 ∧ t = []) ∨ (k = 2 ∧ t = [] ∧ canonI (wordOf n) = n) ∨ (k = 3 ∧ n = 0 ∧ t.length ≤ 24))) := rfl
  have hb := below_box w (.cells #[.int .i64 k, .int .i64 n, .string ⟨t.toArray⟩] 27)
  have hm : t.length ≤ 9223372036854775807 := by have := hv.text; unfold maxLen at this; simp at this; omega
  show Calls _ _ #[.agg #[.int .i64 k, .int .i64 n, .string ⟨t.toArray⟩]] w _
  clear hv
  by_cases h0 : k = 0
  · subst h0
    cases hn : (n == 0) <;> cases t
    all_goals
      go_enter Tryz.func110, Tryz.ntmps110
      go_wp2
      go_ret
      exact ⟨ret_b (by rw [hG.out]; simp_all <;> omega), hb⟩
  by_cases h1 : k = 1
  · subst h1
    cases t
    all_goals
      go_enter Tryz.func110, Tryz.ntmps110
      go_wp2
      go_ret
      exact ⟨ret_b (by rw [hG.out]; simp), hb⟩
  by_cases h2 : k = 2
  · subst h2
    cases t
    all_goals
      go_enter Tryz.func110, Tryz.ntmps110
      go_wp2_with fail
      go_quiet (first | (go_at_call 126; exact Calls.quiet_of_same ((refOf_any _ _).mono fun _ _ h => ⟨h.1, h.2.symm⟩)) | (go_at_call 125; exact Calls.quiet_of_same ((refKept_any _ _).mono fun _ _ h => ⟨h.1, h.2.symm⟩)))
      go_wp2_with fail
      go_ret
      exact ⟨ret_b (by rw [hG.out]; simp <;> rfl), below_nq hb _⟩
  by_cases h3 : k = 3
  · subst h3
    by_cases hl : t.length ≤ 24
    all_goals
      cases hn : (n == 0)
      all_goals
        go_enter Tryz.func110, Tryz.ntmps110
        go_wp2
        go_ret
        exact ⟨ret_b (by rw [hG.out]; simp_all <;> omega), hb⟩
  · go_enter Tryz.func110, Tryz.ntmps110
    go_wp2
    go_ret
    exact ⟨ret_b (by rw [hG.out]; simp_all <;> omega), hb⟩
end Go.Proofs.YtnhalfdddcjicaaGreat

namespace Go.Proofs.YtnhalfdddcjicaaGreat
open Go.RowKit

/-- What an evaluation panics with. -/
def ab (r : Int) : List PanicEntry := [{ v := .iface 161 (.int .i64 r), recovered := false }]
/-- It is abandoned with an error. -/
def Fails (e : Ending) : Prop := ∃ r : Int, r ≠ 0 ∧ e = .panicked (ab r)
theorem fails4 : Fails (.panicked (ab 4)) := ⟨4, by decide, rfl⟩
theorem fails9 : Fails (.panicked (ab 9)) := ⟨9, by decide, rfl⟩
def EndK (r : Option Int) (e : Ending) : Prop :=
  match r with
  | some k => e = .returned (.int .i64 k)
  | none => Fails e
def EndV (r : Option Vl) (e : Ending) : Prop :=
  match r with
  | some v => e = .returned v.val
  | none => Fails e
def EndU (b : Bool) (e : Ending) : Prop := if b = true then e = .returned (.tuple #[]) else Fails e

theorem require_ok (r : Int) (w : World) : Calls Tryz.prog 129 #[.bool true, .int .i64 r] w fun e w' => e = .returned (.tuple #[]) ∧ w = w' := by
  go_enter Tryz.func129, Tryz.ntmps129
  go_wp2
  go_end0
  exact ⟨rfl, rfl⟩
theorem require_no (r : Int) (w : World) : Calls Tryz.prog 129 #[.bool false, .int .i64 r] w fun e w' => e = .panicked (ab r) ∧ w = w' := by
  go_enter Tryz.func129, Tryz.ntmps129
  go_wp2
  exact ⟨rfl, rfl, rfl⟩

theorem cast0 (n : Nat) : ((n : Int) == 0) = decide (n = 0) := by rw [Bool.eq_iff_iff]; simp
theorem cast1 (n : Nat) : ((n : Int) == 1) = decide (n = 1) := by rw [Bool.eq_iff_iff]; simp; omega
theorem cast2 (n : Nat) : ((n : Int) == 2) = decide (n = 2) := by rw [Bool.eq_iff_iff]; simp; omega
set_option maxHeartbeats 1600000 in
theorem hasOperands_any (e : Ex) (w : World) : Calls Tryz.prog 130 #[e.val] w fun en w' => en = .returned (.bool (hasOps e.op e.n)) ∧ Below w.heap.size w w' := by
  obtain ⟨op, hop⟩ : ∃ op, op = e.op := ⟨_, rfl⟩
  obtain ⟨n, hn⟩ : ∃ n, n = e.n := ⟨_, rfl⟩
  unfold Ex.val
  rw [← hop, ← hn]
  generalize e.col = col
  generalize e.v.kind = k
  generalize e.v.num = m
  generalize e.v.text = t
  generalize e.A = A
  generalize e.cap = cap
  clear hop hn
  have hb := below_box w (.cells #[.int .i64 op, .int .i64 col, .int .i64 k, .int .i64 m, .string ⟨t.toArray⟩, .slice A n cap] 67)
  have H : Hid (hasOps op n = if op = 1 ∨ op = 2 then decide (n = 0) else if op = 7 ∨ op = 8 then decide (n = 1) else if op = 3 ∨ op = 4 ∨ op = 5 ∨ op = 6 ∨ op = 9 ∨ op = 10 then decide (n = 2) else false) := rfl
  go_enter Tryz.func130, Tryz.ntmps130
  go_wp2
  all_goals
    go_ret
    exact ⟨ret_b (by rw [H.out]; simp_all <;> first | exact cast0 _ | exact cast1 _ | exact cast2 _), hb⟩


set_option maxHeartbeats 1600000 in
theorem unused_any (e : Ex) (w : World) : Calls Tryz.prog 131 #[e.val] w fun en w' => en = .returned (.bool (unused e.op e.col e.v)) ∧ Below w.heap.size w w' := by
  obtain ⟨op, hop⟩ : ∃ op, op = e.op := ⟨_, rfl⟩
  obtain ⟨col, hcol⟩ : ∃ op, op = e.col := ⟨_, rfl⟩
  obtain ⟨v, hv⟩ : ∃ n, n = e.v := ⟨_, rfl⟩
  unfold Ex.val
  rw [← hop, ← hcol, ← hv]
  generalize e.n = n
  generalize e.A = A
  generalize e.cap = cap
  obtain ⟨k, m, t⟩ := v
  clear hop hcol hv
  have H : Hid (unused op col ⟨k, m, t⟩ = ((decide (op = 2) || decide (col = 0)) && (decide (op = 1) || decide ((⟨k, m, t⟩ : Vl) = ⟨0, 0, []⟩)))) := rfl
  cases h2 : (op == 2) <;> cases h1 : (op == 1) <;> cases h0 : (col == 0)
  all_goals
    go_enter Tryz.func131, Tryz.ntmps131
    go_wp2
    all_goals
      go_ret
      exact ⟨ret_b (by rw [H.out]; simp_all), below_box w _⟩
set_option maxHeartbeats 400000 in
theorem reqTruthK_any (k : Int) (w : World) : Calls Tryz.prog 133 #[.int .i64 k] w fun e w' => EndU (truthK k) e ∧ w = w' := by
  cases h : truthK k with
  | true =>
    rw [truthK_iff] at h
    rcases h with rfl | rfl
    all_goals
      go_enter Tryz.func133, Tryz.ntmps133
      go_wp2_with (go_at_call 129; refine (require_ok _ _).mono ?_; rintro e w' ⟨rfl, rfl⟩)
      go_end0
      exact ⟨rfl, rfl⟩
  | false =>
    have h1 : (k == 1) = false := by unfold truthK at h; simp at h ⊢; omega
    have h0 : (k == 0) = false := by unfold truthK at h; simp at h ⊢; omega
    clear h
    go_enter Tryz.func133, Tryz.ntmps133
    go_wp2_with (go_at_call 129; refine (require_no _ _).mono ?_; rintro e w' ⟨rfl, rfl⟩)
    exact ⟨rfl, fails9, rfl⟩

set_option maxHeartbeats 400000 in
theorem common_any (a b : Int) (w : World) : Calls Tryz.prog 141 #[.int .i64 a, .int .i64 b] w fun e w' => EndK (commonK a b) e ∧ w = w' := by
  have H : Hid (commonK a b = if a = 0 then some b else if a = b ∨ b = 0 then some a else none) := rfl
  by_cases h0 : a = 0
  · subst h0
    go_enter Tryz.func141, Tryz.ntmps141
    go_wp2_with fail
    go_ret
    exact ⟨by rw [H.out]; rfl, rfl⟩
  have h0' : (a == 0) = false := by simpa using h0
  by_cases h1 : a = b
  · subst h1
    go_enter Tryz.func141, Tryz.ntmps141
    go_wp2_with (go_at_call 129; refine (require_ok _ _).mono ?_; rintro e w' ⟨rfl, rfl⟩)
    go_ret
    exact ⟨by rw [H.out]; simp [h0, EndK], rfl⟩
  have h1' : (a == b) = false := by simpa using h1
  by_cases h2 : b = 0
  · subst h2
    go_enter Tryz.func141, Tryz.ntmps141
    go_wp2_with (go_at_call 129; refine (require_ok _ _).mono ?_; rintro e w' ⟨rfl, rfl⟩)
    go_ret
    exact ⟨by rw [H.out]; simp [h0, EndK], rfl⟩
  have h2' : (b == 0) = false := by simpa using h2
  go_enter Tryz.func141, Tryz.ntmps141
  go_wp2_with (go_at_call 129; refine (require_no _ _).mono ?_; rintro e w' ⟨rfl, rfl⟩)
  exact ⟨rfl, by rw [H.out]; simp [h0, h1, h2, EndK]; exact fails9, rfl⟩

set_option maxHeartbeats 1600000 in
theorem kindPair_any (op a b : Int) (w : World) : Calls Tryz.prog 134 #[.int .i64 op, .int .i64 a, .int .i64 b] w fun e w' => EndK (pairK op a b) e ∧ w = w' := by
  have H : Hid (pairK op a b = if op = 5 ∨ op = 6 then (if truthK a = true ∧ truthK b = true then some 1 else none) else if op = 3 ∨ op = 4 then (commonK a b).map (fun _ => 1) else (commonK a b).bind fun k => if k = 3 then none else some k) := rfl
  have ra := reqTruthK_any a
  have rb := reqTruthK_any b
  have rc := common_any a b
  by_cases h56 : op = 5 ∨ op = 6
  · cases ha : truthK a with
    | false =>
      rw [ha] at ra
      rcases h56 with rfl | rfl
      all_goals
        go_enter Tryz.func134, Tryz.ntmps134
        go_wp2_with (go_at_call 133; refine (ra _).mono ?_; rintro e w' ⟨⟨r, hr, rfl⟩, rfl⟩)
        exact ⟨rfl, by rw [H.out]; simp [ha, EndK]; exact ⟨r, hr, rfl⟩, rfl⟩
    | true =>
      rw [ha] at ra
      cases hb : truthK b with
      | false =>
        rw [hb] at rb
        rcases h56 with rfl | rfl
        all_goals
          go_enter Tryz.func134, Tryz.ntmps134
          go_wp2_with fail
          refine (ra _).mono ?_
          rintro e w' ⟨rfl, rfl⟩
          go_wp2_with fail
          refine (rb _).mono ?_
          rintro e w' ⟨⟨r, hr, rfl⟩, rfl⟩
          go_wp2_with fail
          exact ⟨rfl, by rw [H.out]; simp [ha, hb, EndK]; exact ⟨r, hr, rfl⟩, rfl⟩
      | true =>
        rw [hb] at rb
        rcases h56 with rfl | rfl
        all_goals
          go_enter Tryz.func134, Tryz.ntmps134
          go_wp2_with fail
          refine (ra _).mono ?_
          rintro e w' ⟨rfl, rfl⟩
          go_wp2_with fail
          refine (rb _).mono ?_
          rintro e w' ⟨rfl, rfl⟩
          go_wp2_with fail
          go_ret
          exact ⟨by rw [H.out]; simp [ha, hb, EndK], rfl⟩
  have h5 : (op == 5) = false := by simp; omega
  have h6 : (op == 6) = false := by simp; omega
  by_cases h34 : op = 3 ∨ op = 4
  · cases hc : commonK a b with
    | none =>
      rw [hc] at rc
      rcases h34 with rfl | rfl
      all_goals
        go_enter Tryz.func134, Tryz.ntmps134
        go_wp2_with (go_at_call 141; refine (rc _).mono ?_; rintro e w' ⟨⟨r, hr, rfl⟩, rfl⟩)
        exact ⟨rfl, by rw [H.out]; simp [hc, EndK]; exact ⟨r, hr, rfl⟩, rfl⟩
    | some k =>
      rw [hc] at rc
      rcases h34 with rfl | rfl
      all_goals
        go_enter Tryz.func134, Tryz.ntmps134
        go_wp2_with (go_at_call 141; refine (rc _).mono ?_; rintro e w' ⟨rfl, rfl⟩)
        go_ret
        exact ⟨by rw [H.out]; simp [hc, EndK], rfl⟩
  have h3 : (op == 3) = false := by simp; omega
  have h4 : (op == 4) = false := by simp; omega
  cases hc : commonK a b with
  | none =>
    rw [hc] at rc
    go_enter Tryz.func134, Tryz.ntmps134
    go_wp2_with (go_at_call 141; refine (rc _).mono ?_; rintro e w' ⟨⟨r, hr, rfl⟩, rfl⟩)
    exact ⟨rfl, by rw [H.out]; simp [hc, h56, h34, EndK]; exact ⟨r, hr, rfl⟩, rfl⟩
  | some k =>
    rw [hc] at rc
    by_cases hk : k = 3
    · subst hk
      go_enter Tryz.func134, Tryz.ntmps134
      go_wp2_with (first | (go_at_call 141; refine (rc _).mono ?_; rintro e w' ⟨rfl, rfl⟩) | (go_at_call 129; refine (require_no _ _).mono ?_; rintro e w' ⟨rfl, rfl⟩))
      exact ⟨rfl, by rw [H.out]; simp [hc, h56, h34, EndK]; exact fails9, rfl⟩
    · have hk' : (k != 3) = true := by simpa using hk
      go_enter Tryz.func134, Tryz.ntmps134
      go_wp2_with (first | (go_at_call 141; refine (rc _).mono ?_; rintro e w' ⟨rfl, rfl⟩) | (go_at_call 129; refine (require_ok _ _).mono ?_; rintro e w' ⟨rfl, rfl⟩))
      go_ret
      exact ⟨by rw [H.out]; simp [hc, h56, h34, hk, EndK], rfl⟩
end Go.Proofs.YtnhalfdddcjicaaGreat
