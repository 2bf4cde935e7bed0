/- The walks of the reference's Kind, and of its Good. -/
import Derived.Test.YtnhalfdddcjicaaGreatQScV
import Derived.Test.YtnhalfdddcjicaaGreatQJar
namespace Go.Proofs.YtnhalfdddcjicaaGreat
open Go.RowKit

set_option maxHeartbeats 1600000 in
theorem KindR_any (e : Ex) (A : Option Addr) (n cap : Nat) (ks : List Int) (w : World) (hin : InE w e) (hwt : wtE e ≤ 2000000) (hc : Cols w A n ks) (hks : ∀ k ∈ ks, 0 ≤ k ∧ k ≤ 3) (hn : n ≤ maxLen) :
    Calls Tryz.prog 57 #[e.val, .slice A n cap] w fun en w' => en = .returned (kqT (kindL ks e)) ∧ Below w.heap.size w w' := by
  have hb := below_box w (.cells #[.int .i64 e.op, .int .i64 e.col, .int .i64 e.v.kind, .int .i64 e.v.num, .string ⟨e.v.text.toArray⟩, .slice e.A e.n e.cap] 67)
  have hA := At.fresh w 67 #[.int .i64 e.op, .int .i64 e.col, .int .i64 e.v.kind, .int .i64 e.v.num, .string ⟨e.v.text.toArray⟩, .slice e.A e.n e.cap]
  have hs := sizeX_any e _ (hin.below hb) hwt
  have hk := fun w1 (b1 : Below w.heap.size w w1) => kindR_any e w1 A n cap ks (hin.below b1) (hc.below b1) hks hn
  have hl := long_is (full_of_in hin)
  have H : Hid (kindL ks e = if leftE e 24 8 < 0 then .error 3 else kindQ ks e) := rfl
  generalize kindL ks e = kl at *
  generalize kindQ ks e = kq at *
  have hsz := sizeE_le e
  have hdz := deepE_le e
  generalize sizeE e = sz at *
  generalize deepE e = dz at *
  unfold Ex.val at *
  go_enter Tryz.func57, Tryz.ntmps57
  go_wp2_with fail
  refine hs.mono ?_
  rintro en w2 ⟨rfl, b2⟩
  have hb2 := below_in hb b2
  obtain ⟨c0, c1, c2, c3, c4, c5⟩ := (hA.below b2 hA.lt).six
  clear hs hA hb b2
  by_cases h1 : 24 < sz
  · have g1 : decide ((24 : Int) < sz) = true := by simp; omega
    have HE := Lib.hid (H.out.trans (if_pos (hl.2 (.inl h1))))
    clear h1 H hl hk
    go_wp2_with fail
    refine bodyPost_ret (results_tmp2 rfl _ _ _) rfl ⟨?_, hb2⟩
    rw [HE.out]; rfl
  have g1 : decide ((24 : Int) < sz) = false := by simp; omega
  by_cases h2 : 8 < dz
  · have g2 : decide ((8 : Int) < dz) = true := by simp; omega
    have HE := Lib.hid (H.out.trans (if_pos (hl.2 (.inr h2))))
    clear h1 h2 H hl hk
    go_wp2_with fail
    refine bodyPost_ret (results_tmp2 rfl _ _ _) rfl ⟨?_, hb2⟩
    rw [HE.out]; rfl
  have g2 : decide ((8 : Int) < dz) = false := by simp; omega
  have HE := Lib.hid (H.out.trans (if_neg (fun h => by have := hl.1 h; omega)))
  clear h1 h2 H hl
  go_wp2_with fail
  refine (hk _ hb2).mono ?_
  rintro en w3 ⟨rfl, b3⟩
  have hb3 := below_in hb2 b3
  cases kq with
  | ok k =>
    simp only [kqT]
    go_wp2_with fail
    refine bodyPost_ret (results_tmp2 rfl _ _ _) rfl ⟨?_, hb3⟩
    rw [HE.out]; rfl
  | error k =>
    simp only [kqT]
    go_wp2_with fail
    refine bodyPost_ret (results_tmp2 rfl _ _ _) rfl ⟨?_, hb3⟩
    rw [HE.out]; rfl

/-- What a column may not be. -/
def badC (c : Co) (f : Int) (k : Nat) : Prop :=
  nameN c.name = false ∨ f < (k : Int) ∨ c.kind < 1 ∨ 3 < c.kind ∨ c.del < 0 ∨ 2 < c.del ∨ (k = 0 ∧ c.nn = false) ∨ (k = 0 ∧ c.un = true) ∨ (k = 0 ∧ c.ref ≠ []) ∨ (c.ref = [] ∧ c.del ≠ 0) ∨ (c.del = 2 ∧ c.nn = true)
theorem colE_bad {t : Tb} {s : Sc} {i : Nat} (h : badC (t.cols.getD i default) (firstI (fun j => (t.cols.getD j default).name) (t.cols.getD i default).name t.cn) i) : colE t s i = 4 := by
  unfold colE
  generalize (t.cols.getD i default) = c at *
  generalize firstI (fun j => (t.cols.getD j default).name) c.name t.cn = f at *
  by_cases h1 : f < (i : Int)
  · rw [if_pos h1]
  rw [if_neg h1]
  cases hf : formB c with
  | false => rw [if_pos rfl]
  | true =>
  rw [if_neg (by simp)]
  by_cases hk : i = 0 ∧ keyB c = false
  · rw [if_pos hk]
  exfalso
  unfold formB at hf
  rw [Bool.and_eq_true, Bool.and_eq_true, decide_eq_true_eq] at hf
  obtain ⟨⟨f1, f2⟩, f3⟩ := hf
  have hE : ∀ l, emptyB l = true ↔ l = [] := fun l => by unfold emptyB; simp
  have hd : (c.del = 0 ∨ c.del = 1 ∧ c.ref ≠ [] ∨ c.del = 2 ∧ c.ref ≠ [] ∧ c.nn = false) := by
    split at f3
    · rename_i h; exact .inl h
    · split at f3
      · rename_i h
        refine .inr (.inl ⟨h, fun e => ?_⟩)
        rw [(hE _).2 e] at f3; cases f3
      · split at f3
        · rename_i h
          rw [Bool.and_eq_true] at f3
          refine .inr (.inr ⟨h, fun e => ?_, by simpa using f3.2⟩)
          rw [(hE _).2 e] at f3; cases f3.1
        · cases f3
  have hky : i = 0 → c.nn = true ∧ c.un = false ∧ c.ref = [] := fun h0 => by
    have : keyB c = true := by
      cases hkb : keyB c with
      | true => rfl
      | false => exact absurd ⟨h0, hkb⟩ hk
    unfold keyB at this
    rw [Bool.and_eq_true, Bool.and_eq_true] at this
    exact ⟨this.1.1, by simpa using this.1.2, (hE _).1 this.2⟩
  rcases h with h | h | h | h | h | h | h | h | h | h | h
  · rw [f1] at h; cases h
  · exact h1 h
  · omega
  · omega
  · omega
  · omega
  · have := (hky h.1).1; rw [h.2] at this; cases this
  · have := (hky h.1).2.1; rw [h.2] at this; cases this
  · exact h.2 (hky h.1).2.2
  · rcases hd with hd | hd | hd
    · exact h.2 hd
    · exact hd.2 h.1
    · exact hd.2.1 h.1
  · rcases hd with hd | hd | hd
    · omega
    · omega
    · rw [hd.2.2] at h; cases h.2
theorem colE_good {t : Tb} {s : Sc} {i : Nat} (h : ¬ badC (t.cols.getD i default) (firstI (fun j => (t.cols.getD j default).name) (t.cols.getD i default).name t.cn) i) :
    colE t s i = if (t.cols.getD i default).ref = [] then 0 else refE (t.cols.getD i default) t s := by
  unfold colE
  generalize (t.cols.getD i default) = c at *
  generalize firstI (fun j => (t.cols.getD j default).name) c.name t.cn = f at *
  unfold badC at h
  have hE : ∀ l, emptyB l = decide (l = []) := fun l => rfl
  have h1 : nameN c.name = true := by cases hn : nameN c.name <;> simp_all
  have h2 : ¬ f < (i : Int) := fun e => h (.inr (.inl e))
  have h3 : ¬ c.kind < 1 := fun e => h (.inr (.inr (.inl e)))
  have h4 : ¬ 3 < c.kind := fun e => h (.inr (.inr (.inr (.inl e))))
  have h5 : ¬ c.del < 0 := fun e => h (.inr (.inr (.inr (.inr (.inl e)))))
  have h6 : ¬ 2 < c.del := fun e => h (.inr (.inr (.inr (.inr (.inr (.inl e))))))
  have h7 : ¬ (i = 0 ∧ c.nn = false) := fun e => h (.inr (.inr (.inr (.inr (.inr (.inr (.inl e)))))))
  have h8 : ¬ (i = 0 ∧ c.un = true) := fun e => h (.inr (.inr (.inr (.inr (.inr (.inr (.inr (.inl e))))))))
  have h9 : ¬ (i = 0 ∧ c.ref ≠ []) := fun e => h (.inr (.inr (.inr (.inr (.inr (.inr (.inr (.inr (.inl e)))))))))
  have h10 : ¬ (c.ref = [] ∧ c.del ≠ 0) := fun e => h (.inr (.inr (.inr (.inr (.inr (.inr (.inr (.inr (.inr (.inl e))))))))))
  have h11 : ¬ (c.del = 2 ∧ c.nn = true) := fun e => h (.inr (.inr (.inr (.inr (.inr (.inr (.inr (.inr (.inr (.inr e))))))))))
  have hf : formB c = true := by
    unfold formB
    rw [Bool.and_eq_true, Bool.and_eq_true, decide_eq_true_eq]
    refine ⟨⟨h1, by omega⟩, ?_⟩
    by_cases d0 : c.del = 0
    · rw [if_pos d0]
    rw [if_neg d0]
    have hr : ¬ c.ref = [] := fun e => h10 ⟨e, d0⟩
    by_cases d1 : c.del = 1
    · rw [if_pos d1, hE]; simpa using hr
    rw [if_neg d1]
    have d2 : c.del = 2 := by omega
    have hn : c.nn = false := by cases hn : c.nn with
      | false => rfl
      | true => exact absurd ⟨d2, hn⟩ h11
    rw [if_pos d2, hE, hn]; simpa using hr
  rw [if_neg h2, hf, if_neg (by simp)]
  have hk : ¬ (i = 0 ∧ keyB c = false) := by
    rintro ⟨e0, ek⟩
    unfold keyB at ek
    have n1 : c.nn = true := by cases hn : c.nn with
      | true => rfl
      | false => exact absurd ⟨e0, hn⟩ h7
    have n2 : c.un = false := by cases hn : c.un with
      | false => rfl
      | true => exact absurd ⟨e0, hn⟩ h8
    have n3 : c.ref = [] := by
      by_cases e : c.ref = []
      · exact e
      · exact absurd ⟨e0, e⟩ h9
    rw [n1, n2, n3] at ek
    cases ek
  rw [if_neg hk]
end Go.Proofs.YtnhalfdddcjicaaGreat
