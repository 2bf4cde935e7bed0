/- The reader's steps as functions of the bytes that are left, if it has not failed; value.Take. -/
import Derived.Test.YtlkeagfmlcbogaaSmN
import Derived.Test.YtlkeagfmlcbogaaPackH
import Derived.Test.YtlkeagfmlcbogaaScL
namespace Go.Proofs.Ytlkeagfmlcbogaa
open Go.RowKit

theorem rI_any (b : Nat) (l : List UInt8) (f : Bool) (w : World) (h : Rd w b l f) (hl : l.length ≤ maxLen) :
    Calls Try.prog 27 #[.pointer (some ⟨b, 0, none⟩)] w fun e w' => e = .returned (.int .i64 (rdI l f).1) ∧ Rd w' b (rdI l f).2.1 (rdI l f).2.2 ∧ w.grownBy w' (some b) := by
  unfold rdI
  cases hg : grp 0 0 l with
  | none => exact rint_none b l f w h hl hg
  | some x => obtain ⟨u, k⟩ := x; exact rint_some b l f w h hl u k hg
theorem rS_any (b : Nat) (l : List UInt8) (f : Bool) (w : World) (h : Rd w b l f) (hl : l.length ≤ maxLen) :
    Calls Try.prog 54 #[.pointer (some ⟨b, 0, none⟩)] w fun e w' => e = .returned (.string ⟨(rdS l f).1.toArray⟩) ∧ Rd w' b (rdS l f).2.1 (rdS l f).2.2 ∧ w.grownBy w' (some b) := by
  unfold rdS
  cases hg : grp 0 0 l with
  | none => exact rstr_none b l f w h hl hg
  | some x =>
    obtain ⟨u, k⟩ := x
    simp only
    by_cases hb : unzig u < 0 ∨ ((l.drop k).length : Int) < unzig u
    · rw [if_pos hb]
      exact rstr_bad b l f w h hl u k hg hb
    · rw [if_neg hb]
      exact rstr_ok b l (l.drop k) f w h hl u k (unzig u).toNat hg rfl (show _ = _ by omega) (by omega)
theorem rM_neg (b : Nat) (l : List UInt8) (f : Bool) (w : World) (h : Rd w b l f) (hl : l.length ≤ maxLen) :
    Calls Try.prog 53 #[.pointer (some ⟨b, 0, none⟩), .int .i64 (-1)] w fun e w' => e = .returned (.int .i64 0) ∧ Rd w' b [] true ∧ w.grownBy w' (some b) := by
  cases hg : grp 0 0 l with
  | none => exact rmany_none b l f (-1) w h hl hg
  | some x => obtain ⟨u, k⟩ := x; exact rmany_bad b l f (-1) w h hl u k hg (by omega)

theorem rdI_len (l : List UInt8) (f : Bool) : (rdI l f).2.1.length ≤ l.length := by unfold rdI; split <;> simp
theorem rdS_len (l : List UInt8) (f : Bool) : (rdS l f).2.1.length ≤ l.length ∧ (rdS l f).1.length ≤ l.length := by
  unfold rdS
  split
  · split
    · simp
    · simp; omega
  · simp
theorem rdI_i64 (l : List UInt8) (f : Bool) : I64 (rdI l f).1 := by
  unfold rdI
  split
  · rename_i u k hg
    exact unzig_i64 u (grp_ok l 0 0 u k (by omega) (by simp) hg).2.2
  · unfold I64; decide

/-- What leaves alone all but a block. -/
theorem grown_of_below {w w' : World} {row : Option Nat} (h : Below w.heap.size w w') : w.grownBy w' row := ⟨h.os, h.tape, h.output, h.size, fun k hk _ => h.block k hk⟩
theorem grown_put {w w' : World} {row : Option Nat} (h : w.grownBy w' row) {p : Addr} (hp : w.heap.size ≤ p.block) (u : Value) : w.grownBy (w'.setCell p u) row :=
  ⟨h.os, h.tape, h.output, by simpa [World.setCell] using h.size, fun k hk hne => (Below.heap_setCell _ _ _ _ (by omega)).trans (h.block k hk hne)⟩
theorem grown_put3 {w w' : World} {row : Option Nat} (h : w.grownBy w' row) (x y z : Value) : w.grownBy (((w'.setCell ⟨w.heap.size, 0, none⟩ x).setCell ⟨w.heap.size, 1, none⟩ y).setCell ⟨w.heap.size, 2, none⟩ z) row :=
  grown_put (grown_put (grown_put h (Nat.le_refl _) x) (Nat.le_refl _) y) (Nat.le_refl _) z
theorem grown_in {w w1 w2 : World} {row : Option Nat} (h : w.grownBy w1 row) (k : Below w1.heap.size w1 w2) : w.grownBy w2 row := grownBy_tr h (grown_of_below k)
theorem At.put3 {w : World} {g b : Nat} {t : TypeId} {cs : Array Value} (h : At w b t cs) (hne : b ≠ g) (x y z : Value) : At (((w.setCell ⟨g, 0, none⟩ x).setCell ⟨g, 1, none⟩ y).setCell ⟨g, 2, none⟩ z) b t cs :=
  ((h.elsewhere (p := ⟨g, 0, none⟩) hne x).elsewhere (p := ⟨g, 1, none⟩) hne y).elsewhere (p := ⟨g, 2, none⟩) hne z

set_option maxRecDepth 100000 in
set_option maxHeartbeats 1600000 in
theorem vtake_any (b : Nat) (l : List UInt8) (f : Bool) (w : World) (h : Rd w b l f) (hl : l.length ≤ 1000000) :
    Calls Try.prog 80 #[.pointer (some ⟨b, 0, none⟩)] w fun e w' => e = .returned (takeP l f).1.val ∧ Rd w' b (takeP l f).2.1 (takeP l f).2.2 ∧ w.grownBy w' (some b) := by
  have hbl := At.lt h
  have i1 := rdI_i64 l f
  have l1 := rdI_len l f
  have HT : Hid (takeP l f = if goodV ⟨(rdI l f).1, (rdI (rdI l f).2.1 (rdI l f).2.2).1, (rdS (rdI (rdI l f).2.1 (rdI l f).2.2).2.1 (rdI (rdI l f).2.1 (rdI l f).2.2).2.2).1⟩ = true
  then (⟨(rdI l f).1, (rdI (rdI l f).2.1 (rdI l f).2.2).1, (rdS (rdI (rdI l f).2.1 (rdI l f).2.2).2.1 (rdI (rdI l f).2.1 (rdI l f).2.2).2.2).1⟩, (rdS (rdI (rdI l f).2.1 (rdI l f).2.2).2.1 (rdI (rdI l f).2.1 (rdI l f).2.2).2.2).2)
  else (⟨0, 0, []⟩, [], true)) := rfl
  have hA := At.fresh w 43 #[.int .i64 0, .int .i64 0, .string ⟨#[]⟩]
  have h0 : Rd (w.alloc (.cells #[.int .i64 0, .int .i64 0, .string ⟨#[]⟩] 43)) b l f := At.alloc h _
  have g0 : w.grownBy (w.alloc (.cells #[.int .i64 0, .int .i64 0, .string ⟨#[]⟩] 43)) (some b) := World.grownBy_alloc _ _ _
  have hne : some w.heap.size ≠ some b := fun e => by injection e; omega
  go_enter Try.func80, Try.ntmps80
  go_wp2_with fail
  refine (rI_any b l f _ h0 (by unfold maxLen; omega)).mono ?_
  rintro e w1 ⟨rfl, h1, r1⟩
  have hA1 := At.grown hA r1 hne
  have g1 := grownBy_tr g0 r1
  generalize rdI l f = a at *
  obtain ⟨k, l', f'⟩ := a
  simp only at i1 l1 h1 HT ⊢
  have i2 := rdI_i64 l' f'
  have l2 := rdI_len l' f'
  clear hA h0 g0 r1
  go_wp2_with fail
  refine (rI_any b l' f' _ h1 (by unfold maxLen; omega)).mono ?_
  rintro e w2 ⟨rfl, h2, r2⟩
  have hA2 := At.grown hA1 r2 hne
  have g2 := grownBy_tr g1 r2
  generalize rdI l' f' = a at *
  obtain ⟨n, l2', f2'⟩ := a
  simp only at i2 l2 h2 HT ⊢
  have l3 := rdS_len l2' f2'
  clear hA1 h1 g1 r2
  go_wp2_with fail
  refine (rS_any b l2' f2' _ h2 (by unfold maxLen; omega)).mono ?_
  rintro e w3 ⟨rfl, h3, r3⟩
  have hA3 := At.grown hA2 r3 hne
  have g3 := grownBy_tr g2 r3
  generalize rdS l2' f2' = a at *
  obtain ⟨t, l3', f3'⟩ := a
  simp only at l3 h3 HT ⊢
  clear hA2 h2 g2 r3
  have hok : (Vl.mk k n t).Ok := ⟨i1, i2, by show t.length ≤ maxLen; unfold maxLen; omega⟩
  have HO := Lib.hid hok
  have b4 := below_box w3 (.cells #[.int .i64 k, .int .i64 n, .string ⟨t.toArray⟩] 43)
  have hA4 := hA3.alloc (.cells #[.int .i64 k, .int .i64 n, .string ⟨t.toArray⟩] 43)
  have hV4 := At.fresh w3 43 #[.int .i64 k, .int .i64 n, .string ⟨t.toArray⟩]
  have h4 : Rd (w3.alloc (.cells #[.int .i64 k, .int .i64 n, .string ⟨t.toArray⟩] 43)) b l3' f3' := At.alloc h3 _
  have g4 := grown_in g3 b4
  clear hok
  go_wp2_with fail
  refine (vgood_any ⟨k, n, t⟩ HO.out _).mono ?_
  rintro e w5 ⟨rfl, b5⟩
  have hA5 := hA4.below b5 hA4.lt
  have hV5 := hV4.below b5 hV4.lt
  have h5 : Rd w5 b l3' f3' := At.below h4 b5 (At.lt h4)
  have g5 := grown_in g4 b5
  clear hA3 hA4 hV4 h3 h4 g3 g4 b4 b5
  have v0 : w5.cell? ⟨w3.heap.size, 0, none⟩ = some (.int .i64 k) := At.cell hV5 0
  have v1 : w5.cell? ⟨w3.heap.size, 1, none⟩ = some (.int .i64 n) := At.cell hV5 1
  have v2 : w5.cell? ⟨w3.heap.size, 2, none⟩ = some (.string ⟨t.toArray⟩) := At.cell hV5 2
  have c0 : w5.cell? ⟨w.heap.size, 0, none⟩ = some (.int .i64 0) := At.cell hA5 0
  have c1 : w5.cell? ⟨w.heap.size, 1, none⟩ = some (.int .i64 0) := At.cell hA5 1
  have c2 : w5.cell? ⟨w.heap.size, 2, none⟩ = some (.string ⟨#[]⟩) := At.cell hA5 2
  have f0 := At.unfrozen hA5 0
  have f1 := At.unfrozen hA5 1
  have f2 := At.unfrozen hA5 2
  cases hg : goodV ⟨k, n, t⟩ with
  | true =>
    have HT2 := Lib.hid (HT.out.trans (if_pos hg))
    go_wp2_with fail
    refine bodyPost_ret (v := (takeP l f).1.val) (by rw [HT2.out]; simp [results, Try.results80, go_sem, Vl.val, c0, c1, c2]) rfl ⟨rfl, ?_, grown_put3 g5 _ _ _⟩
    rw [HT2.out]
    exact At.put3 h5 (by omega) _ _ _
  | false =>
    have HT2 := Lib.hid (HT.out.trans (if_neg (by rw [hg]; decide)))
    go_wp2_with fail
    refine (rM_neg b l3' f3' _ h5 (by unfold maxLen; omega)).mono ?_
    rintro e w6 ⟨rfl, h6, r6⟩
    have hA6 := At.grown hA5 r6 hne
    have g6 := grownBy_tr g5 r6
    have d0 : w6.cell? ⟨w.heap.size, 0, none⟩ = some (.int .i64 0) := At.cell hA6 0
    have d1 : w6.cell? ⟨w.heap.size, 1, none⟩ = some (.int .i64 0) := At.cell hA6 1
    have d2 : w6.cell? ⟨w.heap.size, 2, none⟩ = some (.string ⟨#[]⟩) := At.cell hA6 2
    have e0 := At.unfrozen hA6 0
    have e1 := At.unfrozen hA6 1
    have e2 := At.unfrozen hA6 2
    clear c0 c1 c2 f0 f1 f2 v0 v1 v2
    go_wp2_with fail
    refine bodyPost_ret (v := (takeP l f).1.val) (by rw [HT2.out]; simp [results, Try.results80, go_sem, Vl.val, d0, d1, d2]) rfl ⟨rfl, ?_, grown_put3 g6 _ _ _⟩
    rw [HT2.out]
    exact At.put3 h6 (by omega) _ _ _

/-- The reader at block b: the bytes that are left, none where it has failed. -/
def RdO (w : World) (b : Nat) (st : Option (List UInt8)) : Prop := Rd w b (st.getD []) st.isNone
def lenO (st : Option (List UInt8)) : Nat := (st.getD []).length
/-- What is left behind a step. -/
def nxt {α : Type} (d : List UInt8 → Option (α × List UInt8)) (st : Option (List UInt8)) : Option (List UInt8) := st.bind fun l => (d l).map (·.2)
/-- x is what the step gives, if it gives any. -/
def Got {α : Type} (d : List UInt8 → Option (α × List UInt8)) (st : Option (List UInt8)) (x : α) : Prop := ∀ y r, st.bind d = some (y, r) → x = y
theorem RdO.lt {w : World} {b : Nat} {st : Option (List UInt8)} (h : RdO w b st) : b < w.heap.size := At.lt h
theorem decI_of (l : List UInt8) : decI l = match grp 0 0 l with | some (u, k) => some (unzig u, l.drop k) | none => none := rfl
theorem len_I (st : Option (List UInt8)) : lenO (nxt decI st) ≤ lenO st := by
  cases st with
  | none => exact Nat.le_refl _
  | some l =>
    unfold nxt lenO
    cases h : decI l with
    | none => simp [h]
    | some x =>
      obtain ⟨n, r⟩ := x
      have := congrArg List.length (decI_sound h).1
      simp [h]
      rw [List.length_append] at this
      omega
theorem oI_any (b : Nat) (st : Option (List UInt8)) (w : World) (h : RdO w b st) (hl : lenO st ≤ 1000000) :
    Calls Try.prog 27 #[.pointer (some ⟨b, 0, none⟩)] w fun e w' => ∃ n, e = .returned (.int .i64 n) ∧ I64 n ∧ Got decI st n ∧ RdO w' b (nxt decI st) ∧ w.grownBy w' (some b) := by
  have hr := rI_any b (st.getD []) st.isNone w h (by unfold lenO at hl; unfold maxLen; omega)
  refine hr.mono ?_
  rintro e w' ⟨rfl, h1, h2⟩
  refine ⟨_, rfl, rdI_i64 _ _, ?_, ?_, h2⟩
  · intro y r hy
    cases st with
    | none => cases hy
    | some l =>
      rw [Option.bind_some, decI_of] at hy
      unfold rdI
      simp only [Option.getD_some]
      cases hg : grp 0 0 l with
      | none => rw [hg] at hy; cases hy
      | some x => obtain ⟨u, k⟩ := x; rw [hg] at hy; injection hy with hy; injection hy
  · unfold RdO nxt
    cases st with
    | none =>
      have e1 : rdI [] true = (0, [], true) := by simp [rdI, grp]
      simp only [Option.getD_none, Option.isNone_none, e1] at h1
      exact h1
    | some l =>
      simp only [Option.getD_some, Option.isNone_some, Option.bind_some] at h1 ⊢
      rw [decI_of]
      unfold rdI at h1
      cases hg : grp 0 0 l with
      | none => rw [hg] at h1; exact h1
      | some x => obtain ⟨u, k⟩ := x; rw [hg] at h1; exact h1
theorem len_S (st : Option (List UInt8)) : lenO (nxt decS st) ≤ lenO st := by
  cases st with
  | none => exact Nat.le_refl _
  | some l =>
    unfold nxt lenO
    cases h : decS l with
    | none => simp [h]
    | some x =>
      obtain ⟨n, r⟩ := x
      have := congrArg List.length (decS_sound h)
      simp [h]
      rw [List.length_append] at this
      omega
theorem oS_any (b : Nat) (st : Option (List UInt8)) (w : World) (h : RdO w b st) (hl : lenO st ≤ 1000000) :
    Calls Try.prog 54 #[.pointer (some ⟨b, 0, none⟩)] w fun e w' => ∃ t : List UInt8, e = .returned (.string ⟨t.toArray⟩) ∧ t.length ≤ lenO st ∧ Got decS st t ∧ RdO w' b (nxt decS st) ∧ w.grownBy w' (some b) := by
  have hr := rS_any b (st.getD []) st.isNone w h (by unfold lenO at hl; unfold maxLen; omega)
  refine hr.mono ?_
  rintro e w' ⟨rfl, h1, h2⟩
  refine ⟨_, rfl, (rdS_len _ _).2, ?_, ?_, h2⟩
  · intro y r hy
    cases st with
    | none => cases hy
    | some l =>
      rw [Option.bind_some] at hy
      unfold decS at hy
      rw [decI_of] at hy
      unfold rdS
      simp only [Option.getD_some]
      cases hg : grp 0 0 l with
      | none => rw [hg] at hy; cases hy
      | some x =>
        obtain ⟨u, k⟩ := x
        rw [hg] at hy
        simp only [Option.bind_some] at hy ⊢
        split at hy
        · cases hy
        · rename_i hb; rw [if_neg hb]; injection hy with hy; injection hy
  · unfold RdO nxt
    cases st with
    | none =>
      have e1 : rdS [] true = ([], [], true) := by simp [rdS, grp]
      simp only [Option.getD_none, Option.isNone_none, e1] at h1
      exact h1
    | some l =>
      simp only [Option.getD_some, Option.isNone_some, Option.bind_some] at h1 ⊢
      unfold decS
      rw [decI_of]
      unfold rdS at h1
      cases hg : grp 0 0 l with
      | none => rw [hg] at h1; exact h1
      | some x =>
        obtain ⟨u, k⟩ := x
        rw [hg] at h1
        simp only [Option.bind_some] at h1 ⊢
        split at h1
        · rename_i hb; rw [if_pos hb]; exact h1
        · rename_i hb; rw [if_neg hb]; exact h1
theorem len_B (st : Option (List UInt8)) : lenO (nxt decB st) ≤ lenO st := by
  cases st with
  | none => exact Nat.le_refl _
  | some l =>
    unfold nxt lenO
    cases h : decB l with
    | none => simp [h]
    | some x =>
      obtain ⟨n, r⟩ := x
      have := congrArg List.length (decB_sound h)
      simp [h]
      rw [List.length_append] at this
      omega
theorem oB_any (b : Nat) (st : Option (List UInt8)) (w : World) (h : RdO w b st) (hl : lenO st ≤ 1000000) :
    Calls Try.prog 71 #[.pointer (some ⟨b, 0, none⟩)] w fun e w' => ∃ x : Bool, e = .returned (.bool x) ∧ Got decB st x ∧ RdO w' b (nxt decB st) ∧ w.grownBy w' (some b) := by
  have hlm : (st.getD []).length ≤ maxLen := by unfold lenO at hl; unfold maxLen; omega
  cases st with
  | none =>
    refine (rbool_none b [] true w h hlm (Lib.hid (by simp [grp]))).mono ?_
    rintro e w' ⟨rfl, h1, h2⟩
    exact ⟨false, rfl, fun y r hy => (by cases hy), h1, h2⟩
  | some l =>
    have hd : decB l = (match grp 0 0 l with | some (u, k) => if unzig u = 0 then some (false, l.drop k) else if unzig u = 1 then some (true, l.drop k) else none | none => none) := by
      unfold decB; rw [decI_of]
      cases grp 0 0 l with
      | none => rfl
      | some x => rfl
    cases hg : grp 0 0 l with
    | none =>
      refine (rbool_none b l false w h hlm hg).mono ?_
      rintro e w' ⟨rfl, h1, h2⟩
      rw [hg] at hd
      exact ⟨false, rfl, fun y r hy => (by rw [Option.bind_some, hd] at hy; cases hy), by unfold nxt; rw [Option.bind_some, hd]; exact h1, h2⟩
    | some x =>
      obtain ⟨u, k⟩ := x
      rw [hg] at hd
      simp only at hd
      by_cases h0 : unzig u = 0
      · rw [if_pos h0] at hd
        refine (rbool_ok b l false false w h hlm u k hg (Lib.hid h0)).mono ?_
        rintro e w' ⟨rfl, h1, h2⟩
        exact ⟨false, rfl, fun y r hy => (by rw [Option.bind_some, hd] at hy; injection hy with hy; injection hy), by unfold nxt; rw [Option.bind_some, hd]; exact h1, h2⟩
      · rw [if_neg h0] at hd
        by_cases h1 : unzig u = 1
        · rw [if_pos h1] at hd
          refine (rbool_ok b l false true w h hlm u k hg (Lib.hid h1)).mono ?_
          rintro e w' ⟨rfl, h1, h2⟩
          exact ⟨true, rfl, fun y r hy => (by rw [Option.bind_some, hd] at hy; injection hy with hy; injection hy), by unfold nxt; rw [Option.bind_some, hd]; exact h1, h2⟩
        · rw [if_neg h1] at hd
          refine (rbool_bad b l false w h hlm u k hg h0 h1).mono ?_
          rintro e w' ⟨rfl, h1, h2⟩
          exact ⟨false, rfl, fun y r hy => (by rw [Option.bind_some, hd] at hy; cases hy), by unfold nxt; rw [Option.bind_some, hd]; exact h1, h2⟩
/-- A count. -/
def decN (bound : Int) (l : List UInt8) : Option (Nat × List UInt8) := (decI l).bind fun x => if x.1 < 0 ∨ bound < x.1 ∨ (x.2.length : Int) < x.1 then none else some (x.1.toNat, x.2)
theorem decM_is {α : Type} (bound : Int) (d : List UInt8 → Option (α × List UInt8)) (l : List UInt8) : decM bound d l = (decN bound l).bind fun x => decL d x.1 x.2 := by
  unfold decM decN
  cases decI l with
  | none => rfl
  | some x =>
    rw [Option.bind_some, Option.bind_some]
    split <;> rfl
theorem oM_any (b : Nat) (bound : Int) (st : Option (List UInt8)) (w : World) (h : RdO w b st) (hl : lenO st ≤ 1000000) :
    Calls Try.prog 53 #[.pointer (some ⟨b, 0, none⟩), .int .i64 bound] w fun e w' => ∃ n : Nat, e = .returned (.int .i64 (n : Int)) ∧ n ≤ lenO st ∧ (st.bind (decN bound) = none → n = 0) ∧ Got (decN bound) st n ∧ RdO w' b (nxt (decN bound) st) ∧ w.grownBy w' (some b) := by
  have hlm : (st.getD []).length ≤ maxLen := by unfold lenO at hl; unfold maxLen; omega
  cases st with
  | none =>
    refine (rmany_none b [] true bound w h hlm (Lib.hid (by simp [grp]))).mono ?_
    rintro e w' ⟨rfl, h1, h2⟩
    exact ⟨0, rfl, Nat.zero_le _, fun _ => rfl, fun y r hy => (by cases hy), h1, h2⟩
  | some l =>
    have hd : decN bound l = (match grp 0 0 l with | some (u, k) => if unzig u < 0 ∨ bound < unzig u ∨ ((l.drop k).length : Int) < unzig u then none else some ((unzig u).toNat, l.drop k) | none => none) := by
      unfold decN; rw [decI_of]
      cases grp 0 0 l with
      | none => rfl
      | some x => rfl
    cases hg : grp 0 0 l with
    | none =>
      refine (rmany_none b l false bound w h hlm hg).mono ?_
      rintro e w' ⟨rfl, h1, h2⟩
      rw [hg] at hd
      exact ⟨0, rfl, Nat.zero_le _, fun _ => rfl, fun y r hy => (by rw [Option.bind_some, hd] at hy; cases hy), by unfold nxt; rw [Option.bind_some, hd]; exact h1, h2⟩
    | some x =>
      obtain ⟨u, k⟩ := x
      rw [hg] at hd
      simp only at hd
      by_cases hb : unzig u < 0 ∨ bound < unzig u ∨ ((l.drop k).length : Int) < unzig u
      · rw [if_pos hb] at hd
        refine (rmany_bad b l false bound w h hlm u k hg hb).mono ?_
        rintro e w' ⟨rfl, h1, h2⟩
        exact ⟨0, rfl, Nat.zero_le _, fun _ => rfl, fun y r hy => (by rw [Option.bind_some, hd] at hy; cases hy), by unfold nxt; rw [Option.bind_some, hd]; exact h1, h2⟩
      · rw [if_neg hb] at hd
        refine (rmany_ok b l (l.drop k) false bound ((unzig u).toNat : Int) w h hlm u k hg rfl (show _ = _ by omega) (by omega) (by omega) (by omega)).mono ?_
        rintro e w' ⟨rfl, h1, h2⟩
        refine ⟨(unzig u).toNat, rfl, ?_, fun hn => ?_, fun y r hy => ?_, ?_, h2⟩
        · have : (l.drop k).length ≤ l.length := by simp
          show _ ≤ l.length
          omega
        · rw [Option.bind_some, hd] at hn; cases hn
        · rw [Option.bind_some, hd] at hy; injection hy with hy; injection hy
        · unfold nxt; rw [Option.bind_some, hd]; exact h1
end Go.Proofs.Ytlkeagfmlcbogaa
