/- The walks of the small tests of a column: isRole, canBeKey, hasForm, goodRef. -/
import Derived.Test.YtlkeagfmlcbogaaQScC
import Derived.Test.YtlkeagfmlcbogaaQScBn
import Derived.BigQuiet
import Derived.Deep.QuietTactic
namespace Go.Proofs.Ytlkeagfmlcbogaa
open Go.RowKit

def emptyB (l : List UInt8) : Bool := decide (l = [])
def formB (c : Co) : Bool := nameN c.name && decide (1 ≤ c.kind ∧ c.kind ≤ 3) &&
  (if c.del = 0 then true else if c.del = 1 then !emptyB c.ref else if c.del = 2 then !emptyB c.ref && !c.nn else false)
def keyB (c : Co) : Bool := c.nn && !c.un && emptyB c.ref
theorem emptyB_iff (l : List UInt8) : emptyB l = l.isEmpty := by unfold emptyB; cases l <;> simp
theorem empty_forms {l : List UInt8} (h : ¬ l = []) : (l.toArray == #[]) = false ∧ l.isEmpty = false ∧ emptyB l = false := by cases l <;> simp_all [emptyB]

def roleB (n : Int) : Bool := decide (0 ≤ n) && decide (n ≤ 7)
theorem isRole_any (n : Int) (w : World) : Calls Try.prog 35 #[.int .i64 n] w fun e w' => e = .returned (.bool (roleB n)) ∧ w = w' := by
  have H : Hid (roleB n = (decide (0 ≤ n) && decide (n ≤ 7))) := rfl
  by_cases h1 : 0 ≤ n
  · have h1' : decide ((0 : Int) ≤ n) = true := by simpa using h1
    have HF := Lib.hid (show roleB n = decide (n < 8) by rw [H.out, h1']; simp; omega)
    clear h1 H
    go_enter Try.func35, Try.ntmps35
    go_wp2_with fail
    go_ret
    exact ⟨ret_b HF.out.symm, rfl⟩
  · have h1' : decide ((0 : Int) ≤ n) = false := by simpa using h1
    have HF := Lib.hid (show roleB n = false by rw [H.out, h1']; rfl)
    go_enter Try.func35, Try.ntmps35
    go_wp2_with fail
    go_ret
    exact ⟨ret_b HF.out.symm, rfl⟩

theorem canBeKey_any (c : Co) (w : World) : Calls Try.prog 62 #[c.val] w fun e w' => e = .returned (.bool (keyB c)) ∧ Below w.heap.size w w' := by
  have H : Hid (keyB c = (c.nn && !c.un && emptyB c.ref)) := rfl
  have hb := below_box w (.cells #[.string ⟨c.name.toArray⟩, .int .i64 c.kind, .bool c.nn, .bool c.un, .string ⟨c.ref.toArray⟩, .int .i64 c.del] 35)
  unfold Co.val
  obtain ⟨nm, kd, nn, un, rf, dl⟩ := c
  simp only at H hb ⊢
  cases nn <;> cases un
  all_goals
    go_enter Try.func62, Try.ntmps62
    go_wp2_with fail
    go_ret
    exact ⟨ret_b (by rw [H.out]; simp [emptyB_iff]), hb⟩

set_option maxRecDepth 100000 in
set_option maxHeartbeats 1600000 in
theorem hasForm_any (c : Co) (hc : c.Ok) (w : World) : Calls Try.prog 61 #[c.val] w fun e w' => e = .returned (.bool (formB c)) ∧ Below w.heap.size w w' := by
  have H : Hid (formB c = (nameN c.name && decide (1 ≤ c.kind ∧ c.kind ≤ 3) && (if c.del = 0 then true else if c.del = 1 then !emptyB c.ref else if c.del = 2 then !emptyB c.ref && !c.nn else false))) := rfl
  have hb := below_box w (.cells #[.string ⟨c.name.toArray⟩, .int .i64 c.kind, .bool c.nn, .bool c.un, .string ⟨c.ref.toArray⟩, .int .i64 c.del] 35)
  have hn := name_any c.name hc.name
  clear hc
  unfold Co.val
  obtain ⟨nm, kd, nn, un, rf, dl⟩ := c
  simp only at H hb hn ⊢
  generalize nameN nm = b at *
  cases b with
  | false =>
    go_enter Try.func61, Try.ntmps61
    go_wp2_with fail
    refine (hn _).mono ?_
    rintro e w' ⟨rfl, rfl⟩
    go_wp2_with fail
    go_ret
    exact ⟨ret_b (by rw [H.out]; rfl), hb⟩
  | true =>
    by_cases h1 : kd < 1
    · have g1 : decide (kd < 1) = true := by simpa using h1
      have HF := Lib.hid (show formB ⟨nm, kd, nn, un, rf, dl⟩ = false by rw [H.out]; simp; omega)
      go_enter Try.func61, Try.ntmps61
      go_wp2_with fail
      refine (hn _).mono ?_
      rintro e w' ⟨rfl, rfl⟩
      go_wp2_with fail
      go_ret
      exact ⟨ret_b HF.out.symm, hb⟩
    have g1 : decide (kd < 1) = false := by simpa using h1
    by_cases h3 : 3 < kd
    · have g3 : decide (3 < kd) = true := by simpa using h3
      have HF := Lib.hid (show formB ⟨nm, kd, nn, un, rf, dl⟩ = false by rw [H.out]; simp; omega)
      go_enter Try.func61, Try.ntmps61
      go_wp2_with fail
      refine (hn _).mono ?_
      rintro e w' ⟨rfl, rfl⟩
      go_wp2_with fail
      go_ret
      exact ⟨ret_b HF.out.symm, hb⟩
    have g3 : decide (3 < kd) = false := by simpa using h3
    have hk : decide (1 ≤ kd ∧ kd ≤ 3) = true := by simp; omega
    rw [hk] at H
    have HF := Lib.hid (show formB ⟨nm, kd, nn, un, rf, dl⟩ = (if dl = 0 then true else if dl = 1 then !emptyB rf else if dl = 2 then !emptyB rf && !nn else false) by rw [H.out]; simp)
    clear H hk h1 h3
    by_cases d0 : dl = 0
    · subst d0
      go_enter Try.func61, Try.ntmps61
      go_wp2_with fail
      refine (hn _).mono ?_
      rintro e w' ⟨rfl, rfl⟩
      go_wp2_with fail
      go_ret
      exact ⟨ret_b (by rw [HF.out]; rfl), hb⟩
    by_cases d1 : dl = 1
    · subst d1
      go_enter Try.func61, Try.ntmps61
      go_wp2_with fail
      refine (hn _).mono ?_
      rintro e w' ⟨rfl, rfl⟩
      go_wp2_with fail
      go_ret
      exact ⟨ret_b (by rw [HF.out]; simp [emptyB_iff]), hb⟩
    by_cases d2 : dl = 2
    · subst d2
      by_cases hr : rf = []
      · subst hr
        go_enter Try.func61, Try.ntmps61
        go_wp2_with fail
        refine (hn _).mono ?_
        rintro e w' ⟨rfl, rfl⟩
        go_wp2_with fail
        go_ret
        exact ⟨ret_b (by rw [HF.out]; simp [emptyB_iff]), hb⟩
      · obtain ⟨r1, r2, r3⟩ := empty_forms hr
        clear hr
        go_enter Try.func61, Try.ntmps61
        go_wp2_with fail
        refine (hn _).mono ?_
        rintro e w' ⟨rfl, rfl⟩
        go_wp2_with fail
        go_ret
        exact ⟨ret_b (by rw [HF.out]; simp [r3]), hb⟩
    have e0 : (dl == 0) = false := by simpa using d0
    have e1 : (dl == 1) = false := by simpa using d1
    have e2 : (dl == 2) = false := by simpa using d2
    have HG := Lib.hid (HF.out.trans (by rw [if_neg d0, if_neg d1, if_neg d2]))
    clear HF d0 d1 d2
    go_enter Try.func61, Try.ntmps61
    go_wp2_with fail
    refine (hn _).mono ?_
    rintro e w' ⟨rfl, rfl⟩
    go_wp2_with fail
    go_ret
    exact ⟨ret_b HG.out.symm, hb⟩
end Go.Proofs.Ytlkeagfmlcbogaa
