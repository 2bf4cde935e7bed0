/- The reader's steps as functions of the bytes that are left, if it has not failed; value.Take. -/
/- The walks of takeColumn and takeGrant; value.Take by the bytes that are left. -/
/- takeGrant's walk; value.Take by the bytes that are left. -/
/- Lists as the reader takes them: the loop's state; takeList for columns and grants. -/
/- takeList for columns and grants. -/
import Derived.Test.YtlkeagfmlcbogaaQSMa
import Derived.Test.YtlkeagfmlcbogaaQPackH
import Derived.Test.YtlkeagfmlcbogaaQScL
import Derived.Test.YtlkeagfmlcbogaaQSCa
namespace Go.Proofs.Ytlkeagfmlcbogaa
open Go.RowKit

theorem rI_any (b : Nat) (l : List UInt8) (f : Bool) (w : World) (h : Rd w b l f) (hl : l.length ≤ maxLen) :
    Calls Try.prog 27 #[.pointer (some ⟨b, 0, none⟩)] w fun e w' => e = .returned (.int .i64 (rdI l f).1) ∧ Rd w' b (rdI l f).2.1 (rdI l f).2.2 ∧ w.grownBy w' (some b) := by
  unfold rdI
  cases hg : grp 0 0 l with
  | none => exact rint_none b l f w h hl hg
  | some x => obtain ⟨u, k⟩ := x; exact rint_some b l f w h hl u k hg
theorem rS_any (b : Nat) (l : List UInt8) (f : Bool) (w : World) (h : Rd w b l f) (hl : l.length ≤ maxLen) :
    Calls Try.prog 54 #[.pointer (some ⟨b, 0, none⟩)] w fun e w' => e = .returned (.string ⟨(rdS l f).1.toArray⟩) ∧ Rd w' b (rdS l f).2.1 (rdS l f).2.2 ∧ w.grownBy w' (some b) := by
  unfold rdS
  cases hg : grp 0 0 l with
  | none => exact rstr_none b l f w h hl hg
  | some x =>
    obtain ⟨u, k⟩ := x
    simp only
    by_cases hb : unzig u < 0 ∨ ((l.drop k).length : Int) < unzig u
    · rw [if_pos hb]
      exact rstr_bad b l f w h hl u k hg hb
    · rw [if_neg hb]
      exact rstr_ok b l (l.drop k) f w h hl u k (unzig u).toNat hg rfl (show _ = _ by omega) (by omega)
theorem rM_neg (b : Nat) (l : List UInt8) (f : Bool) (w : World) (h : Rd w b l f) (hl : l.length ≤ maxLen) :
    Calls Try.prog 53 #[.pointer (some ⟨b, 0, none⟩), .int .i64 (-1)] w fun e w' => e = .returned (.int .i64 0) ∧ Rd w' b [] true ∧ w.grownBy w' (some b) := by
  cases hg : grp 0 0 l with
  | none => exact rmany_none b l f (-1) w h hl hg
  | some x => obtain ⟨u, k⟩ := x; exact rmany_bad b l f (-1) w h hl u k hg (by omega)

theorem rdI_len (l : List UInt8) (f : Bool) : (rdI l f).2.1.length ≤ l.length := by unfold rdI; split <;> simp
theorem rdS_len (l : List UInt8) (f : Bool) : (rdS l f).2.1.length ≤ l.length ∧ (rdS l f).1.length ≤ l.length := by
  unfold rdS
  split
  · split
    · simp
    · simp; omega
  · simp
theorem rdI_i64 (l : List UInt8) (f : Bool) : I64 (rdI l f).1 := by
  unfold rdI
  split
  · rename_i u k hg
    exact unzig_i64 u (grp_ok l 0 0 u k (by omega) (by simp) hg).2.2
  · unfold I64; decide

/-- What leaves alone all but a block. -/
theorem grown_of_below {w w' : World} {row : Option Nat} (h : Below w.heap.size w w') : w.grownBy w' row := ⟨h.os, h.tape, h.output, h.size, fun k hk _ => h.block k hk⟩
theorem grown_put {w w' : World} {row : Option Nat} (h : w.grownBy w' row) {p : Addr} (hp : w.heap.size ≤ p.block) (u : Value) : w.grownBy (w'.setCell p u) row :=
  ⟨h.os, h.tape, h.output, by simpa [World.setCell] using h.size, fun k hk hne => (Below.heap_setCell _ _ _ _ (by omega)).trans (h.block k hk hne)⟩
theorem grown_put3 {w w' : World} {row : Option Nat} (h : w.grownBy w' row) (x y z : Value) : w.grownBy (((w'.setCell ⟨w.heap.size, 0, none⟩ x).setCell ⟨w.heap.size, 1, none⟩ y).setCell ⟨w.heap.size, 2, none⟩ z) row :=
  grown_put (grown_put (grown_put h (Nat.le_refl _) x) (Nat.le_refl _) y) (Nat.le_refl _) z
theorem grown_in {w w1 w2 : World} {row : Option Nat} (h : w.grownBy w1 row) (k : Below w1.heap.size w1 w2) : w.grownBy w2 row := grownBy_tr h (grown_of_below k)
theorem At.put3 {w : World} {g b : Nat} {t : TypeId} {cs : Array Value} (h : At w b t cs) (hne : b ≠ g) (x y z : Value) : At (((w.setCell ⟨g, 0, none⟩ x).setCell ⟨g, 1, none⟩ y).setCell ⟨g, 2, none⟩ z) b t cs :=
  ((h.elsewhere (p := ⟨g, 0, none⟩) hne x).elsewhere (p := ⟨g, 1, none⟩) hne y).elsewhere (p := ⟨g, 2, none⟩) hne z

set_option maxRecDepth 100000 in
set_option maxHeartbeats 1600000 in
theorem vtake_any (b : Nat) (l : List UInt8) (f : Bool) (w : World) (h : Rd w b l f) (hl : l.length ≤ 20000000) :
    Calls Try.prog 80 #[.pointer (some ⟨b, 0, none⟩)] w fun e w' => e = .returned (takeP l f).1.val ∧ Rd w' b (takeP l f).2.1 (takeP l f).2.2 ∧ w.grownBy w' (some b) := by
  have hbl := At.lt h
  have i1 := rdI_i64 l f
  have l1 := rdI_len l f
  have HT : Hid (takeP l f = if goodV ⟨(rdI l f).1, (rdI (rdI l f).2.1 (rdI l f).2.2).1, (rdS (rdI (rdI l f).2.1 (rdI l f).2.2).2.1 (rdI (rdI l f).2.1 (rdI l f).2.2).2.2).1⟩ = true
  then (⟨(rdI l f).1, (rdI (rdI l f).2.1 (rdI l f).2.2).1, (rdS (rdI (rdI l f).2.1 (rdI l f).2.2).2.1 (rdI (rdI l f).2.1 (rdI l f).2.2).2.2).1⟩, (rdS (rdI (rdI l f).2.1 (rdI l f).2.2).2.1 (rdI (rdI l f).2.1 (rdI l f).2.2).2.2).2)
  else (⟨0, 0, []⟩, [], true)) := rfl
  have hA := At.fresh w 43 #[.int .i64 0, .int .i64 0, .string ⟨#[]⟩]
  have h0 : Rd (w.alloc (.cells #[.int .i64 0, .int .i64 0, .string ⟨#[]⟩] 43)) b l f := At.alloc h _
  have g0 : w.grownBy (w.alloc (.cells #[.int .i64 0, .int .i64 0, .string ⟨#[]⟩] 43)) (some b) := World.grownBy_alloc _ _ _
  have hne : some w.heap.size ≠ some b := fun e => by injection e; omega
  go_enter Try.func80, Try.ntmps80
  go_wp2_with fail
  refine (rI_any b l f _ h0 (by unfold maxLen; omega)).mono ?_
  rintro e w1 ⟨rfl, h1, r1⟩
  have hA1 := At.grown hA r1 hne
  have g1 := grownBy_tr g0 r1
  generalize rdI l f = a at *
  obtain ⟨k, l', f'⟩ := a
  simp only at i1 l1 h1 HT ⊢
  have i2 := rdI_i64 l' f'
  have l2 := rdI_len l' f'
  clear hA h0 g0 r1
  go_wp2_with fail
  refine (rI_any b l' f' _ h1 (by unfold maxLen; omega)).mono ?_
  rintro e w2 ⟨rfl, h2, r2⟩
  have hA2 := At.grown hA1 r2 hne
  have g2 := grownBy_tr g1 r2
  generalize rdI l' f' = a at *
  obtain ⟨n, l2', f2'⟩ := a
  simp only at i2 l2 h2 HT ⊢
  have l3 := rdS_len l2' f2'
  clear hA1 h1 g1 r2
  go_wp2_with fail
  refine (rS_any b l2' f2' _ h2 (by unfold maxLen; omega)).mono ?_
  rintro e w3 ⟨rfl, h3, r3⟩
  have hA3 := At.grown hA2 r3 hne
  have g3 := grownBy_tr g2 r3
  generalize rdS l2' f2' = a at *
  obtain ⟨t, l3', f3'⟩ := a
  simp only at l3 h3 HT ⊢
  clear hA2 h2 g2 r3
  have hok : (Vl.mk k n t).Ok := ⟨i1, i2, by show t.length ≤ maxLen; unfold maxLen; omega⟩
  have HO := Lib.hid hok
  have b4 := below_box w3 (.cells #[.int .i64 k, .int .i64 n, .string ⟨t.toArray⟩] 43)
  have hA4 := hA3.alloc (.cells #[.int .i64 k, .int .i64 n, .string ⟨t.toArray⟩] 43)
  have hV4 := At.fresh w3 43 #[.int .i64 k, .int .i64 n, .string ⟨t.toArray⟩]
  have h4 : Rd (w3.alloc (.cells #[.int .i64 k, .int .i64 n, .string ⟨t.toArray⟩] 43)) b l3' f3' := At.alloc h3 _
  have g4 := grown_in g3 b4
  clear hok
  go_wp2_with fail
  refine (vgood_any ⟨k, n, t⟩ HO.out _).mono ?_
  rintro e w5 ⟨rfl, b5⟩
  have hA5 := hA4.below b5 hA4.lt
  have hV5 := hV4.below b5 hV4.lt
  have h5 : Rd w5 b l3' f3' := At.below h4 b5 (At.lt h4)
  have g5 := grown_in g4 b5
  clear hA3 hA4 hV4 h3 h4 g3 g4 b4 b5
  have v0 : w5.cell? ⟨w3.heap.size, 0, none⟩ = some (.int .i64 k) := At.cell hV5 0
  have v1 : w5.cell? ⟨w3.heap.size, 1, none⟩ = some (.int .i64 n) := At.cell hV5 1
  have v2 : w5.cell? ⟨w3.heap.size, 2, none⟩ = some (.string ⟨t.toArray⟩) := At.cell hV5 2
  have c0 : w5.cell? ⟨w.heap.size, 0, none⟩ = some (.int .i64 0) := At.cell hA5 0
  have c1 : w5.cell? ⟨w.heap.size, 1, none⟩ = some (.int .i64 0) := At.cell hA5 1
  have c2 : w5.cell? ⟨w.heap.size, 2, none⟩ = some (.string ⟨#[]⟩) := At.cell hA5 2
  have f0 := At.unfrozen hA5 0
  have f1 := At.unfrozen hA5 1
  have f2 := At.unfrozen hA5 2
  cases hg : goodV ⟨k, n, t⟩ with
  | true =>
    have HT2 := Lib.hid (HT.out.trans (if_pos hg))
    go_wp2_with fail
    refine bodyPost_ret (v := (takeP l f).1.val) (by rw [HT2.out]; simp [results, Try.results80, go_sem, Vl.val, c0, c1, c2]) rfl ⟨rfl, ?_, grown_put3 g5 _ _ _⟩
    rw [HT2.out]
    exact At.put3 h5 (by omega) _ _ _
  | false =>
    have HT2 := Lib.hid (HT.out.trans (if_neg (by rw [hg]; decide)))
    go_wp2_with fail
    refine (rM_neg b l3' f3' _ h5 (by unfold maxLen; omega)).mono ?_
    rintro e w6 ⟨rfl, h6, r6⟩
    have hA6 := At.grown hA5 r6 hne
    have g6 := grownBy_tr g5 r6
    have d0 : w6.cell? ⟨w.heap.size, 0, none⟩ = some (.int .i64 0) := At.cell hA6 0
    have d1 : w6.cell? ⟨w.heap.size, 1, none⟩ = some (.int .i64 0) := At.cell hA6 1
    have d2 : w6.cell? ⟨w.heap.size, 2, none⟩ = some (.string ⟨#[]⟩) := At.cell hA6 2
    have e0 := At.unfrozen hA6 0
    have e1 := At.unfrozen hA6 1
    have e2 := At.unfrozen hA6 2
    clear c0 c1 c2 f0 f1 f2 v0 v1 v2
    go_wp2_with fail
    refine bodyPost_ret (v := (takeP l f).1.val) (by rw [HT2.out]; simp [results, Try.results80, go_sem, Vl.val, d0, d1, d2]) rfl ⟨rfl, ?_, grown_put3 g6 _ _ _⟩
    rw [HT2.out]
    exact At.put3 h6 (by omega) _ _ _

/-- The reader at block b: the bytes that are left, none where it has failed. -/
def RdO (w : World) (b : Nat) (st : Option (List UInt8)) : Prop := Rd w b (st.getD []) st.isNone
def lenO (st : Option (List UInt8)) : Nat := (st.getD []).length
/-- What is left behind a step. -/
def nxt {α : Type} (d : List UInt8 → Option (α × List UInt8)) (st : Option (List UInt8)) : Option (List UInt8) := st.bind fun l => (d l).map (·.2)
/-- x is what the step gives, if it gives any. -/
def Got {α : Type} (d : List UInt8 → Option (α × List UInt8)) (st : Option (List UInt8)) (x : α) : Prop := ∀ y r, st.bind d = some (y, r) → x = y
theorem RdO.lt {w : World} {b : Nat} {st : Option (List UInt8)} (h : RdO w b st) : b < w.heap.size := At.lt h
theorem decI_of (l : List UInt8) : decI l = match grp 0 0 l with | some (u, k) => some (unzig u, l.drop k) | none => none := rfl
theorem len_I (st : Option (List UInt8)) : lenO (nxt decI st) ≤ lenO st := by
  cases st with
  | none => exact Nat.le_refl _
  | some l =>
    unfold nxt lenO
    cases h : decI l with
    | none => simp [h]
    | some x =>
      obtain ⟨n, r⟩ := x
      have := congrArg List.length (decI_sound h).1
      simp [h]
      rw [List.length_append] at this
      omega
theorem oI_any (b : Nat) (st : Option (List UInt8)) (w : World) (h : RdO w b st) (hl : lenO st ≤ 20000000) :
    Calls Try.prog 27 #[.pointer (some ⟨b, 0, none⟩)] w fun e w' => ∃ n, e = .returned (.int .i64 n) ∧ I64 n ∧ Got decI st n ∧ RdO w' b (nxt decI st) ∧ w.grownBy w' (some b) := by
  have hr := rI_any b (st.getD []) st.isNone w h (by unfold lenO at hl; unfold maxLen; omega)
  refine hr.mono ?_
  rintro e w' ⟨rfl, h1, h2⟩
  refine ⟨_, rfl, rdI_i64 _ _, ?_, ?_, h2⟩
  · intro y r hy
    cases st with
    | none => cases hy
    | some l =>
      rw [Option.bind_some, decI_of] at hy
      unfold rdI
      simp only [Option.getD_some]
      cases hg : grp 0 0 l with
      | none => rw [hg] at hy; cases hy
      | some x => obtain ⟨u, k⟩ := x; rw [hg] at hy; injection hy with hy; injection hy
  · unfold RdO nxt
    cases st with
    | none =>
      have e1 : rdI [] true = (0, [], true) := by simp [rdI, grp]
      simp only [Option.getD_none, Option.isNone_none, e1] at h1
      exact h1
    | some l =>
      simp only [Option.getD_some, Option.isNone_some, Option.bind_some] at h1 ⊢
      rw [decI_of]
      unfold rdI at h1
      cases hg : grp 0 0 l with
      | none => rw [hg] at h1; exact h1
      | some x => obtain ⟨u, k⟩ := x; rw [hg] at h1; exact h1
theorem len_S (st : Option (List UInt8)) : lenO (nxt decS st) ≤ lenO st := by
  cases st with
  | none => exact Nat.le_refl _
  | some l =>
    unfold nxt lenO
    cases h : decS l with
    | none => simp [h]
    | some x =>
      obtain ⟨n, r⟩ := x
      have := congrArg List.length (decS_sound h)
      simp [h]
      rw [List.length_append] at this
      omega
theorem oS_any (b : Nat) (st : Option (List UInt8)) (w : World) (h : RdO w b st) (hl : lenO st ≤ 20000000) :
    Calls Try.prog 54 #[.pointer (some ⟨b, 0, none⟩)] w fun e w' => ∃ t : List UInt8, e = .returned (.string ⟨t.toArray⟩) ∧ t.length ≤ lenO st ∧ Got decS st t ∧ RdO w' b (nxt decS st) ∧ w.grownBy w' (some b) := by
  have hr := rS_any b (st.getD []) st.isNone w h (by unfold lenO at hl; unfold maxLen; omega)
  refine hr.mono ?_
  rintro e w' ⟨rfl, h1, h2⟩
  refine ⟨_, rfl, (rdS_len _ _).2, ?_, ?_, h2⟩
  · intro y r hy
    cases st with
    | none => cases hy
    | some l =>
      rw [Option.bind_some] at hy
      unfold decS at hy
      rw [decI_of] at hy
      unfold rdS
      simp only [Option.getD_some]
      cases hg : grp 0 0 l with
      | none => rw [hg] at hy; cases hy
      | some x =>
        obtain ⟨u, k⟩ := x
        rw [hg] at hy
        simp only [Option.bind_some] at hy ⊢
        split at hy
        · cases hy
        · rename_i hb; rw [if_neg hb]; injection hy with hy; injection hy
  · unfold RdO nxt
    cases st with
    | none =>
      have e1 : rdS [] true = ([], [], true) := by simp [rdS, grp]
      simp only [Option.getD_none, Option.isNone_none, e1] at h1
      exact h1
    | some l =>
      simp only [Option.getD_some, Option.isNone_some, Option.bind_some] at h1 ⊢
      unfold decS
      rw [decI_of]
      unfold rdS at h1
      cases hg : grp 0 0 l with
      | none => rw [hg] at h1; exact h1
      | some x =>
        obtain ⟨u, k⟩ := x
        rw [hg] at h1
        simp only [Option.bind_some] at h1 ⊢
        split at h1
        · rename_i hb; rw [if_pos hb]; exact h1
        · rename_i hb; rw [if_neg hb]; exact h1
theorem len_B (st : Option (List UInt8)) : lenO (nxt decB st) ≤ lenO st := by
  cases st with
  | none => exact Nat.le_refl _
  | some l =>
    unfold nxt lenO
    cases h : decB l with
    | none => simp [h]
    | some x =>
      obtain ⟨n, r⟩ := x
      have := congrArg List.length (decB_sound h)
      simp [h]
      rw [List.length_append] at this
      omega
theorem oB_any (b : Nat) (st : Option (List UInt8)) (w : World) (h : RdO w b st) (hl : lenO st ≤ 20000000) :
    Calls Try.prog 71 #[.pointer (some ⟨b, 0, none⟩)] w fun e w' => ∃ x : Bool, e = .returned (.bool x) ∧ Got decB st x ∧ RdO w' b (nxt decB st) ∧ w.grownBy w' (some b) := by
  have hlm : (st.getD []).length ≤ maxLen := by unfold lenO at hl; unfold maxLen; omega
  cases st with
  | none =>
    refine (rbool_none b [] true w h hlm (Lib.hid (by simp [grp]))).mono ?_
    rintro e w' ⟨rfl, h1, h2⟩
    exact ⟨false, rfl, fun y r hy => (by cases hy), h1, h2⟩
  | some l =>
    have hd : decB l = (match grp 0 0 l with | some (u, k) => if unzig u = 0 then some (false, l.drop k) else if unzig u = 1 then some (true, l.drop k) else none | none => none) := by
      unfold decB; rw [decI_of]
      cases grp 0 0 l with
      | none => rfl
      | some x => rfl
    cases hg : grp 0 0 l with
    | none =>
      refine (rbool_none b l false w h hlm hg).mono ?_
      rintro e w' ⟨rfl, h1, h2⟩
      rw [hg] at hd
      exact ⟨false, rfl, fun y r hy => (by rw [Option.bind_some, hd] at hy; cases hy), by unfold nxt; rw [Option.bind_some, hd]; exact h1, h2⟩
    | some x =>
      obtain ⟨u, k⟩ := x
      rw [hg] at hd
      simp only at hd
      by_cases h0 : unzig u = 0
      · rw [if_pos h0] at hd
        refine (rbool_ok b l false false w h hlm u k hg (Lib.hid h0)).mono ?_
        rintro e w' ⟨rfl, h1, h2⟩
        exact ⟨false, rfl, fun y r hy => (by rw [Option.bind_some, hd] at hy; injection hy with hy; injection hy), by unfold nxt; rw [Option.bind_some, hd]; exact h1, h2⟩
      · rw [if_neg h0] at hd
        by_cases h1 : unzig u = 1
        · rw [if_pos h1] at hd
          refine (rbool_ok b l false true w h hlm u k hg (Lib.hid h1)).mono ?_
          rintro e w' ⟨rfl, h1, h2⟩
          exact ⟨true, rfl, fun y r hy => (by rw [Option.bind_some, hd] at hy; injection hy with hy; injection hy), by unfold nxt; rw [Option.bind_some, hd]; exact h1, h2⟩
        · rw [if_neg h1] at hd
          refine (rbool_bad b l false w h hlm u k hg h0 h1).mono ?_
          rintro e w' ⟨rfl, h1, h2⟩
          exact ⟨false, rfl, fun y r hy => (by rw [Option.bind_some, hd] at hy; cases hy), by unfold nxt; rw [Option.bind_some, hd]; exact h1, h2⟩
/-- A count. -/
def decN (bound : Int) (l : List UInt8) : Option (Nat × List UInt8) := (decI l).bind fun x => if x.1 < 0 ∨ bound < x.1 ∨ (x.2.length : Int) < x.1 then none else some (x.1.toNat, x.2)
theorem decM_is {α : Type} (bound : Int) (d : List UInt8 → Option (α × List UInt8)) (l : List UInt8) : decM bound d l = (decN bound l).bind fun x => decL d x.1 x.2 := by
  unfold decM decN
  cases decI l with
  | none => rfl
  | some x =>
    rw [Option.bind_some, Option.bind_some]
    split <;> rfl
theorem oM_any (b : Nat) (bound : Int) (st : Option (List UInt8)) (w : World) (h : RdO w b st) (hl : lenO st ≤ 20000000) :
    Calls Try.prog 53 #[.pointer (some ⟨b, 0, none⟩), .int .i64 bound] w fun e w' => ∃ n : Nat, e = .returned (.int .i64 (n : Int)) ∧ n ≤ lenO st ∧ (st.bind (decN bound) = none → n = 0) ∧ Got (decN bound) st n ∧ RdO w' b (nxt (decN bound) st) ∧ w.grownBy w' (some b) := by
  have hlm : (st.getD []).length ≤ maxLen := by unfold lenO at hl; unfold maxLen; omega
  cases st with
  | none =>
    refine (rmany_none b [] true bound w h hlm (Lib.hid (by simp [grp]))).mono ?_
    rintro e w' ⟨rfl, h1, h2⟩
    exact ⟨0, rfl, Nat.zero_le _, fun _ => rfl, fun y r hy => (by cases hy), h1, h2⟩
  | some l =>
    have hd : decN bound l = (match grp 0 0 l with | some (u, k) => if unzig u < 0 ∨ bound < unzig u ∨ ((l.drop k).length : Int) < unzig u then none else some ((unzig u).toNat, l.drop k) | none => none) := by
      unfold decN; rw [decI_of]
      cases grp 0 0 l with
      | none => rfl
      | some x => rfl
    cases hg : grp 0 0 l with
    | none =>
      refine (rmany_none b l false bound w h hlm hg).mono ?_
      rintro e w' ⟨rfl, h1, h2⟩
      rw [hg] at hd
      exact ⟨0, rfl, Nat.zero_le _, fun _ => rfl, fun y r hy => (by rw [Option.bind_some, hd] at hy; cases hy), by unfold nxt; rw [Option.bind_some, hd]; exact h1, h2⟩
    | some x =>
      obtain ⟨u, k⟩ := x
      rw [hg] at hd
      simp only at hd
      by_cases hb : unzig u < 0 ∨ bound < unzig u ∨ ((l.drop k).length : Int) < unzig u
      · rw [if_pos hb] at hd
        refine (rmany_bad b l false bound w h hlm u k hg hb).mono ?_
        rintro e w' ⟨rfl, h1, h2⟩
        exact ⟨0, rfl, Nat.zero_le _, fun _ => rfl, fun y r hy => (by rw [Option.bind_some, hd] at hy; cases hy), by unfold nxt; rw [Option.bind_some, hd]; exact h1, h2⟩
      · rw [if_neg hb] at hd
        refine (rmany_ok b l (l.drop k) false bound ((unzig u).toNat : Int) w h hlm u k hg rfl (show _ = _ by omega) (by omega) (by omega) (by omega)).mono ?_
        rintro e w' ⟨rfl, h1, h2⟩
        refine ⟨(unzig u).toNat, rfl, ?_, fun hn => ?_, fun y r hy => ?_, ?_, h2⟩
        · have : (l.drop k).length ≤ l.length := by simp
          show _ ≤ l.length
          omega
        · rw [Option.bind_some, hd] at hn; cases hn
        · rw [Option.bind_some, hd] at hy; injection hy with hy; injection hy
        · unfold nxt; rw [Option.bind_some, hd]; exact h1
end Go.Proofs.Ytlkeagfmlcbogaa

namespace Go.Proofs.Ytlkeagfmlcbogaa
open Go.RowKit

theorem got_some {α : Type} {d : List UInt8 → Option (α × List UInt8)} {l : List UInt8} {x y : α} {r : List UInt8} (h : Got d (some l) x) (e : d l = some (y, r)) : x = y := h y r e
theorem nxt_some {α : Type} {d : List UInt8 → Option (α × List UInt8)} {l : List UInt8} {y : α} {r : List UInt8} (e : d l = some (y, r)) : nxt d (some l) = some r := by unfold nxt; rw [Option.bind_some, e]; rfl
theorem nxt_none {α : Type} {d : List UInt8 → Option (α × List UInt8)} {l : List UInt8} (e : d l = none) : nxt d (some l) = none := by unfold nxt; rw [Option.bind_some, e]; rfl
theorem nxt_nil {α : Type} (d : List UInt8 → Option (α × List UInt8)) : nxt d none = none := rfl
theorem got_nil {α : Type} (d : List UInt8 → Option (α × List UInt8)) (x : α) : Got d none x := fun _ _ h => by cases h

theorem decC_nxt (st : Option (List UInt8)) : nxt decC st = nxt decB (nxt decB (nxt decI (nxt decI (nxt decS (nxt decS st))))) := by
  cases st with
  | none => rfl
  | some l =>
    have hC : ∀ o : Option (Co × List UInt8), decC l = o → nxt decC (some l) = o.map (·.2) := fun o h => by unfold nxt; rw [Option.bind_some, h]
    unfold decC at hC
    cases h1 : decS l with
    | none => rw [nxt_none h1]; exact hC _ (by rw [h1])
    | some x1 =>
      obtain ⟨n, q1⟩ := x1
      rw [nxt_some h1]
      cases h2 : decS q1 with
      | none => rw [nxt_none h2]; exact hC none (by rw [h1, Option.bind_some]; simp only; rw [h2]; rfl)
      | some x2 =>
        obtain ⟨f, q2⟩ := x2
        rw [nxt_some h2]
        cases h3 : decI q2 with
        | none => rw [nxt_none h3]; exact hC none (by rw [h1, Option.bind_some]; simp only; rw [h2, Option.bind_some]; simp only; rw [h3]; rfl)
        | some x3 =>
          obtain ⟨k, q3⟩ := x3
          rw [nxt_some h3]
          cases h4 : decI q3 with
          | none => rw [nxt_none h4]; exact hC none (by rw [h1, Option.bind_some]; simp only; rw [h2, Option.bind_some]; simp only; rw [h3, Option.bind_some]; simp only; rw [h4]; rfl)
          | some x4 =>
            obtain ⟨d, q4⟩ := x4
            rw [nxt_some h4]
            cases h5 : decB q4 with
            | none => rw [nxt_none h5]; exact hC none (by rw [h1, Option.bind_some]; simp only; rw [h2, Option.bind_some]; simp only; rw [h3, Option.bind_some]; simp only; rw [h4, Option.bind_some]; simp only; rw [h5]; rfl)
            | some x5 =>
              obtain ⟨a, q5⟩ := x5
              rw [nxt_some h5]
              cases h6 : decB q5 with
              | none => rw [nxt_none h6]; exact hC none (by rw [h1, Option.bind_some]; simp only; rw [h2, Option.bind_some]; simp only; rw [h3, Option.bind_some]; simp only; rw [h4, Option.bind_some]; simp only; rw [h5, Option.bind_some]; simp only; rw [h6]; rfl)
              | some x6 =>
                obtain ⟨u, q6⟩ := x6
                rw [nxt_some h6]
                exact hC (some (⟨n, k, a, u, f, d⟩, q6)) (by rw [h1, Option.bind_some]; simp only; rw [h2, Option.bind_some]; simp only; rw [h3, Option.bind_some]; simp only; rw [h4, Option.bind_some]; simp only; rw [h5, Option.bind_some]; simp only; rw [h6]; rfl)
theorem decC_got {st : Option (List UInt8)} {n f : List UInt8} {k d : Int} {a u : Bool} (g1 : Got decS st n) (g2 : Got decS (nxt decS st) f) (g3 : Got decI (nxt decS (nxt decS st)) k) (g4 : Got decI (nxt decI (nxt decS (nxt decS st))) d)
    (g5 : Got decB (nxt decI (nxt decI (nxt decS (nxt decS st)))) a) (g6 : Got decB (nxt decB (nxt decI (nxt decI (nxt decS (nxt decS st))))) u) : Got decC st ⟨n, k, a, u, f, d⟩ := by
  cases st with
  | none => exact got_nil _ _
  | some l =>
    intro c r h
    rw [Option.bind_some] at h
    unfold decC at h
    simp only [Option.bind_eq_some_iff] at h
    obtain ⟨⟨n', q1⟩, h1, ⟨f', q2⟩, h2, ⟨k', q3⟩, h3, ⟨d', q4⟩, h4, ⟨a', q5⟩, h5, ⟨u', q6⟩, h6, h7⟩ := h
    injection h7 with h7; injection h7 with e1 e2
    subst e1
    dsimp only at *
    rw [nxt_some h1] at g2 g3 g4 g5 g6
    rw [nxt_some h2] at g3 g4 g5 g6
    rw [nxt_some h3] at g4 g5 g6
    rw [nxt_some h4] at g5 g6
    rw [nxt_some h5] at g6
    rw [got_some g1 h1, got_some g2 h2, got_some g3 h3, got_some g4 h4, got_some g5 h5, got_some g6 h6]
theorem decG_nxt (st : Option (List UInt8)) : nxt decG st = nxt decS (nxt decI (nxt decI st)) := by
  cases st with
  | none => rfl
  | some l =>
    have hC : ∀ o : Option (Gr × List UInt8), decG l = o → nxt decG (some l) = o.map (·.2) := fun o h => by unfold nxt; rw [Option.bind_some, h]
    unfold decG at hC
    cases h1 : decI l with
    | none => rw [nxt_none h1]; exact hC _ (by rw [h1])
    | some x1 =>
      obtain ⟨n, q1⟩ := x1
      rw [nxt_some h1]
      cases h2 : decI q1 with
      | none => rw [nxt_none h2]; exact hC none (by rw [h1, Option.bind_some]; simp only; rw [h2]; rfl)
      | some x2 =>
        obtain ⟨f, q2⟩ := x2
        rw [nxt_some h2]
        cases h3 : decS q2 with
        | none => rw [nxt_none h3]; exact hC none (by rw [h1, Option.bind_some]; simp only; rw [h2, Option.bind_some]; simp only; rw [h3]; rfl)
        | some x3 =>
          obtain ⟨k, q3⟩ := x3
          rw [nxt_some h3]
          exact hC (some (⟨n, k, f⟩, q3)) (by rw [h1, Option.bind_some]; simp only; rw [h2, Option.bind_some]; simp only; rw [h3]; rfl)
theorem decG_got {st : Option (List UInt8)} {n f : Int} {k : List UInt8} (g1 : Got decI st n) (g2 : Got decI (nxt decI st) f) (g3 : Got decS (nxt decI (nxt decI st)) k) : Got decG st ⟨n, k, f⟩ := by
  cases st with
  | none => exact got_nil _ _
  | some l =>
    intro c r h
    rw [Option.bind_some] at h
    unfold decG at h
    simp only [Option.bind_eq_some_iff] at h
    obtain ⟨⟨n', q1⟩, h1, ⟨f', q2⟩, h2, ⟨k', q3⟩, h3, h7⟩ := h
    injection h7 with h7; injection h7 with e1 e2
    subst e1
    dsimp only at *
    rw [nxt_some h1] at g2 g3
    rw [nxt_some h2] at g3
    rw [got_some g1 h1, got_some g2 h2, got_some g3 h3]

theorem grown_put6 {w w' : World} {row : Option Nat} (h : w.grownBy w' row) (x y z p q r : Value) : w.grownBy ((((((w'.setCell ⟨w.heap.size, 0, none⟩ x).setCell ⟨w.heap.size, 1, none⟩ y).setCell ⟨w.heap.size, 2, none⟩ z).setCell ⟨w.heap.size, 3, none⟩ p).setCell ⟨w.heap.size, 4, none⟩ q).setCell ⟨w.heap.size, 5, none⟩ r) row :=
  grown_put (grown_put (grown_put (grown_put3 h x y z) (Nat.le_refl _) p) (Nat.le_refl _) q) (Nat.le_refl _) r
theorem At.put6 {w : World} {g b : Nat} {t : TypeId} {cs : Array Value} (h : At w b t cs) (hne : b ≠ g) (x y z p q r : Value) : At ((((((w.setCell ⟨g, 0, none⟩ x).setCell ⟨g, 1, none⟩ y).setCell ⟨g, 2, none⟩ z).setCell ⟨g, 3, none⟩ p).setCell ⟨g, 4, none⟩ q).setCell ⟨g, 5, none⟩ r) b t cs :=
  (((h.put3 hne x y z).elsewhere (p := ⟨g, 3, none⟩) hne p).elsewhere (p := ⟨g, 4, none⟩) hne q).elsewhere (p := ⟨g, 5, none⟩) hne r
theorem At.six2 {w : World} {g : Nat} {t : TypeId} {x y z p q r : Value} (h : At w g t #[x, y, z, p, q, r]) : w.frozen? ⟨g, 0, none⟩ = false ∧ w.frozen? ⟨g, 1, none⟩ = false ∧ w.frozen? ⟨g, 2, none⟩ = false ∧
    w.frozen? ⟨g, 3, none⟩ = false ∧ w.frozen? ⟨g, 4, none⟩ = false ∧ w.frozen? ⟨g, 5, none⟩ = false := ⟨h.unfrozen 0, h.unfrozen 1, h.unfrozen 2, h.unfrozen 3, h.unfrozen 4, h.unfrozen 5⟩

set_option maxRecDepth 100000 in
set_option maxHeartbeats 1600000 in
theorem takeC_any (b : Nat) (st : Option (List UInt8)) (w : World) (h : RdO w b st) (hl : lenO st ≤ 20000000) :
    Calls Try.prog 56 #[.pointer (some ⟨b, 0, none⟩)] w fun e w' => ∃ c : Co, e = .returned c.val ∧ okC c ∧ Got decC st c ∧ RdO w' b (nxt decC st) ∧ w.grownBy w' (some b) := by
  have hbl := h.lt
  have hA := At.fresh w 35 #[.string ⟨#[]⟩, .int .i64 0, .bool false, .bool false, .string ⟨#[]⟩, .int .i64 0]
  have h0 : RdO (w.alloc (.cells #[.string ⟨#[]⟩, .int .i64 0, .bool false, .bool false, .string ⟨#[]⟩, .int .i64 0] 35)) b st := At.alloc h _
  have g0 : w.grownBy (w.alloc (.cells #[.string ⟨#[]⟩, .int .i64 0, .bool false, .bool false, .string ⟨#[]⟩, .int .i64 0] 35)) (some b) := World.grownBy_alloc _ _ _
  have hne : some w.heap.size ≠ some b := fun e => by injection e; omega
  have l1 := len_S st
  have l2 := len_S (nxt decS st)
  have l3 := len_I (nxt decS (nxt decS st))
  have l4 := len_I (nxt decI (nxt decS (nxt decS st)))
  have l5 := len_B (nxt decI (nxt decI (nxt decS (nxt decS st))))
  rw [decC_nxt]
  go_enter Try.func56, Try.ntmps56
  go_wp2_with fail
  refine (oS_any b st _ h0 hl).mono ?_
  rintro e w1 ⟨n, rfl, i1, k1, h1, r1⟩
  have hA1 := At.grown hA r1 hne
  have g1 := grownBy_tr g0 r1
  go_wp2_with fail
  refine (oS_any b _ _ h1 (by omega)).mono ?_
  rintro e w2 ⟨f, rfl, i2, k2, h2, r2⟩
  have hA2 := At.grown hA1 r2 hne
  have g2 := grownBy_tr g1 r2
  go_wp2_with fail
  refine (oI_any b _ _ h2 (by omega)).mono ?_
  rintro e w3 ⟨kd, rfl, i3, k3, h3, r3⟩
  have hA3 := At.grown hA2 r3 hne
  have g3 := grownBy_tr g2 r3
  go_wp2_with fail
  refine (oI_any b _ _ h3 (by omega)).mono ?_
  rintro e w4 ⟨dl, rfl, i4, k4, h4, r4⟩
  have hA4 := At.grown hA3 r4 hne
  have g4 := grownBy_tr g3 r4
  go_wp2_with fail
  refine (oB_any b _ _ h4 (by omega)).mono ?_
  rintro e w5 ⟨nn, rfl, k5, h5, r5⟩
  have hA5 := At.grown hA4 r5 hne
  have g5 := grownBy_tr g4 r5
  go_wp2_with fail
  refine (oB_any b _ _ h5 (by omega)).mono ?_
  rintro e w6 ⟨un, rfl, k6, h6, r6⟩
  have hA6 := At.grown hA5 r6 hne
  have g6 := grownBy_tr g5 r6
  have hG := decC_got k1 k2 k3 k4 k5 k6
  have HG := Lib.hid hG
  clear hA hA1 hA2 hA3 hA4 hA5 h0 h1 h2 h3 h4 h5 g0 g1 g2 g3 g4 g5 r1 r2 r3 r4 r5 r6 k1 k2 k3 k4 k5 k6 hG
  obtain ⟨c0, c1, c2, c3, c4, c5⟩ := hA6.six
  obtain ⟨f0, f1, f2, f3, f4, f5⟩ := hA6.six2
  go_wp2_with fail
  refine bodyPost_ret (v := (⟨n, kd, nn, un, f, dl⟩ : Co).val) (by simp [results, Try.results56, go_sem, Co.val, c0, c1, c2, c3, c4, c5]) rfl ⟨⟨n, kd, nn, un, f, dl⟩, rfl, ⟨i3, i4, by show n.length ≤ _; omega, by show f.length ≤ _; omega⟩, HG.out, ?_, grown_put6 g6 _ _ _ _ _ _⟩
  exact At.put6 h6 (by omega) _ _ _ _ _ _
end Go.Proofs.Ytlkeagfmlcbogaa

namespace Go.Proofs.Ytlkeagfmlcbogaa
open Go.RowKit

theorem At.tri2 {w : World} {g : Nat} {t : TypeId} {x y z : Value} (h : At w g t #[x, y, z]) : w.frozen? ⟨g, 0, none⟩ = false ∧ w.frozen? ⟨g, 1, none⟩ = false ∧ w.frozen? ⟨g, 2, none⟩ = false := ⟨h.unfrozen 0, h.unfrozen 1, h.unfrozen 2⟩
theorem At.tri1 {w : World} {g : Nat} {t : TypeId} {x y z : Value} (h : At w g t #[x, y, z]) : w.cell? ⟨g, 0, none⟩ = some x ∧ w.cell? ⟨g, 1, none⟩ = some y ∧ w.cell? ⟨g, 2, none⟩ = some z := ⟨h.cell 0, h.cell 1, h.cell 2⟩

set_option maxRecDepth 100000 in
set_option maxHeartbeats 1600000 in
theorem takeG_any (b : Nat) (st : Option (List UInt8)) (w : World) (h : RdO w b st) (hl : lenO st ≤ 20000000) :
    Calls Try.prog 31 #[.pointer (some ⟨b, 0, none⟩)] w fun e w' => ∃ c : Gr, e = .returned c.val ∧ okG c ∧ Got decG st c ∧ RdO w' b (nxt decG st) ∧ w.grownBy w' (some b) := by
  have hbl := h.lt
  have hA := At.fresh w 48 #[.int .i64 0, .string ⟨#[]⟩, .int .i64 0]
  have h0 : RdO (w.alloc (.cells #[.int .i64 0, .string ⟨#[]⟩, .int .i64 0] 48)) b st := At.alloc h _
  have g0 : w.grownBy (w.alloc (.cells #[.int .i64 0, .string ⟨#[]⟩, .int .i64 0] 48)) (some b) := World.grownBy_alloc _ _ _
  have hne : some w.heap.size ≠ some b := fun e => by injection e; omega
  have l1 := len_I st
  have l2 := len_I (nxt decI st)
  rw [decG_nxt]
  go_enter Try.func31, Try.ntmps31
  go_wp2_with fail
  refine (oI_any b st _ h0 hl).mono ?_
  rintro e w1 ⟨n, rfl, i1, k1, h1, r1⟩
  have hA1 := At.grown hA r1 hne
  have g1 := grownBy_tr g0 r1
  go_wp2_with fail
  refine (oI_any b _ _ h1 (by omega)).mono ?_
  rintro e w2 ⟨f, rfl, i2, k2, h2, r2⟩
  have hA2 := At.grown hA1 r2 hne
  have g2 := grownBy_tr g1 r2
  go_wp2_with fail
  refine (oS_any b _ _ h2 (by omega)).mono ?_
  rintro e w3 ⟨t, rfl, i3, k3, h3, r3⟩
  have hA3 := At.grown hA2 r3 hne
  have g3 := grownBy_tr g2 r3
  have hG := decG_got k1 k2 k3
  have HG := Lib.hid hG
  clear hA hA1 hA2 h0 h1 h2 g0 g1 g2 r1 r2 r3 k1 k2 k3 hG
  obtain ⟨c0, c1, c2⟩ := hA3.tri1
  obtain ⟨f0, f1, f2⟩ := hA3.tri2
  go_wp2_with fail
  refine bodyPost_ret (v := (⟨n, t, f⟩ : Gr).val) (by simp [results, Try.results31, go_sem, Gr.val, c0, c1, c2]) rfl ⟨⟨n, t, f⟩, rfl, ⟨i1, i2, by show t.length ≤ _; omega⟩, HG.out, ?_, grown_put3 g3 _ _ _⟩
  exact At.put3 h3 (by omega) _ _ _

theorem rdI_some {l r : List UInt8} {x : Int} (h : decI l = some (x, r)) : rdI l false = (x, r, false) := by
  rw [decI_of] at h; unfold rdI; split at h
  · rename_i hg; injection h with h; injection h with e1 e2; subst e1; subst e2; rw [hg]
  · cases h
theorem rdI_none {l : List UInt8} {f : Bool} (h : decI l = none) : rdI l f = (0, [], true) := by
  rw [decI_of] at h; unfold rdI; split at h
  · cases h
  · rename_i hg; rw [hg]
theorem rdI_fail : rdI [] true = (0, [], true) := by simp [rdI, grp]
theorem rdS_fail : rdS [] true = ([], [], true) := by simp [rdS, grp]
theorem rdS_some {l r t : List UInt8} (h : decS l = some (t, r)) : rdS l false = (t, r, false) := by
  unfold decS at h; rw [decI_of] at h; unfold rdS
  cases hg : grp 0 0 l with
  | none => rw [hg] at h; cases h
  | some x =>
    obtain ⟨u, k⟩ := x
    rw [hg] at h
    simp only [Option.bind_some] at h ⊢
    split at h
    · cases h
    · rename_i hb; rw [if_neg hb]; injection h with h; injection h with e1 e2; rw [e1, e2]
theorem rdS_none {l : List UInt8} {f : Bool} (h : decS l = none) : rdS l f = ([], [], true) := by
  unfold decS at h; rw [decI_of] at h; unfold rdS
  cases hg : grp 0 0 l with
  | none => rfl
  | some x =>
    obtain ⟨u, k⟩ := x
    rw [hg] at h
    simp only [Option.bind_some] at h ⊢
    split at h
    · rename_i hb; rw [if_pos hb]
    · cases h
/-- What value.Take leaves behind. -/
def leftO (st : Option (List UInt8)) (p : Vl × List UInt8 × Bool) : Prop := p.2.1 = st.getD [] ∧ p.2.2 = st.isNone
theorem takeP_fail : takeP [] true = (⟨0, 0, []⟩, [], true) := by unfold takeP; rw [rdI_fail]; simp only; rw [rdI_fail]; simp only; rw [rdS_fail]; split <;> rfl
theorem takeP_o (st : Option (List UInt8)) : Got decV st (takeP (st.getD []) st.isNone).1 ∧ leftO (nxt decV st) (takeP (st.getD []) st.isNone) := by
  cases st with
  | none => simp only [Option.getD_none, Option.isNone_none, takeP_fail]; exact ⟨got_nil _ _, rfl, rfl⟩
  | some l =>
    have hC : ∀ o, decV l = o → (o = none → leftO none (takeP l false)) → (∀ v r, o = some (v, r) → takeP l false = (v, r, false)) → Got decV (some l) (takeP l false).1 ∧ leftO (nxt decV (some l)) (takeP l false) := by
      intro o ho hn hs
      cases o with
      | none =>
        rw [nxt_none ho]
        refine ⟨fun y r e => ?_, hn rfl⟩
        rw [Option.bind_some, ho] at e
        cases e
      | some x =>
        obtain ⟨v, r⟩ := x
        rw [nxt_some ho, hs v r rfl]
        exact ⟨fun y r' e => by rw [Option.bind_some, ho] at e; injection e with e; injection e, rfl, rfl⟩
    show Got decV (some l) (takeP l false).1 ∧ leftO (nxt decV (some l)) (takeP l false)
    refine hC _ rfl ?_ ?_
    · intro ho
      unfold decV at ho
      unfold takeP
      cases h1 : decI l with
      | none => rw [rdI_none h1]; simp only; rw [rdI_fail]; simp only; rw [rdS_fail]; split <;> exact ⟨rfl, rfl⟩
      | some x1 =>
        obtain ⟨k, q1⟩ := x1
        rw [rdI_some h1]; simp only
        rw [h1, Option.bind_some] at ho; simp only at ho
        cases h2 : decI q1 with
        | none => rw [rdI_none h2]; simp only; rw [rdS_fail]; split <;> exact ⟨rfl, rfl⟩
        | some x2 =>
          obtain ⟨n, q2⟩ := x2
          rw [rdI_some h2]; simp only
          rw [h2, Option.bind_some] at ho; simp only at ho
          cases h3 : decS q2 with
          | none => rw [rdS_none h3]; split <;> exact ⟨rfl, rfl⟩
          | some x3 =>
            obtain ⟨t, q3⟩ := x3
            rw [rdS_some h3]; simp only
            rw [h3, Option.bind_some] at ho; simp only at ho
            split at ho
            · cases ho
            · rename_i hg; rw [if_neg hg]; exact ⟨rfl, rfl⟩
    · intro v r ho
      unfold decV at ho
      simp only [Option.bind_eq_some_iff] at ho
      obtain ⟨⟨k, q1⟩, h1, ⟨n, q2⟩, h2, ⟨t, q3⟩, h3, h4⟩ := ho
      dsimp only at *
      unfold takeP
      rw [rdI_some h1]; simp only
      rw [rdI_some h2]; simp only
      rw [rdS_some h3]; simp only
      split at h4
      · rename_i hg; rw [if_pos hg]; injection h4 with h4; injection h4 with e1 e2; rw [e1, e2]
      · cases h4

theorem takeP_good (l : List UInt8) (f : Bool) : goodV (takeP l f).1 = true := by
  unfold takeP; split
  · rename_i h; exact h
  · rw [goodV_iff]; exact .inl ⟨rfl, rfl, rfl⟩
theorem takeP_ok (l : List UInt8) (f : Bool) : I64 (takeP l f).1.kind ∧ I64 (takeP l f).1.num ∧ (takeP l f).1.text.length ≤ l.length ∧ (takeP l f).2.1.length ≤ l.length := by
  have l1 := rdI_len l f
  have l2 := rdI_len (rdI l f).2.1 (rdI l f).2.2
  have l3 := rdS_len (rdI (rdI l f).2.1 (rdI l f).2.2).2.1 (rdI (rdI l f).2.1 (rdI l f).2.2).2.2
  unfold takeP; split
  · exact ⟨rdI_i64 _ _, rdI_i64 _ _, by show List.length (rdS _ _).1 ≤ _; omega, by show List.length (rdS _ _).2.1 ≤ _; omega⟩
  · exact ⟨by unfold I64; decide, by unfold I64; decide, Nat.zero_le _, Nat.zero_le _⟩
theorem len_V (st : Option (List UInt8)) : lenO (nxt decV st) ≤ lenO st := by
  have h := (takeP_o st).2.1
  have k := (takeP_ok (st.getD []) st.isNone).2.2.2
  unfold lenO; rw [← h]; exact k

theorem oV_any (b : Nat) (st : Option (List UInt8)) (w : World) (h : RdO w b st) (hl : lenO st ≤ 20000000) :
    Calls Try.prog 80 #[.pointer (some ⟨b, 0, none⟩)] w fun e w' => ∃ v : Vl, e = .returned v.val ∧ (I64 v.kind ∧ I64 v.num ∧ v.text.length ≤ lenO st ∧ goodV v = true) ∧ Got decV st v ∧ RdO w' b (nxt decV st) ∧ w.grownBy w' (some b) := by
  have hr := vtake_any b (st.getD []) st.isNone w h (by unfold lenO at hl; omega)
  refine hr.mono ?_
  rintro e w' ⟨rfl, h1, h2⟩
  have k := takeP_ok (st.getD []) st.isNone
  have o := takeP_o st
  refine ⟨_, rfl, ⟨k.1, k.2.1, k.2.2.1, takeP_good _ _⟩, o.1, ?_, h2⟩
  unfold RdO
  rw [← o.2.1, ← o.2.2]; exact h1
end Go.Proofs.Ytlkeagfmlcbogaa

namespace Go.Proofs.Ytlkeagfmlcbogaa
open Go.RowKit

/-- Behind k items: what was taken, what is left. -/
def Inv {α : Type} (d : List UInt8 → Option (α × List UInt8)) (s0 : Option (List UInt8)) (L : List α) (st : Option (List UInt8)) : Prop :=
  ∀ m, s0.bind (decL d (L.length + m)) = st.bind fun l => (decL d m l).map fun y => (L ++ y.1, y.2)
theorem inv_zero {α : Type} (d : List UInt8 → Option (α × List UInt8)) (s0 : Option (List UInt8)) : Inv d s0 [] s0 := by
  intro m
  cases s0 with
  | none => rfl
  | some l =>
    rw [Option.bind_some, Option.bind_some, List.length_nil, Nat.zero_add]
    cases decL d m l with
    | none => rfl
    | some y => rfl
theorem inv_succ {α : Type} {d : List UInt8 → Option (α × List UInt8)} {s0 : Option (List UInt8)} {L : List α} {st : Option (List UInt8)} {x : α} (h : Inv d s0 L st) (hx : Got d st x) : Inv d s0 (L ++ [x]) (nxt d st) := by
  intro m
  have h1 := h (m + 1)
  rw [List.length_append, List.length_cons, List.length_nil, Nat.zero_add, Nat.add_assoc, Nat.add_comm 1 m, h1]
  cases st with
  | none => rfl
  | some l =>
    rw [Option.bind_some, decL]
    cases hd : d l with
    | none => rw [nxt_none hd]; rfl
    | some y =>
      obtain ⟨x', r⟩ := y
      rw [nxt_some hd, Option.bind_some, Option.bind_some, got_some hx hd]
      simp only
      cases decL d m r with
      | none => rfl
      | some z => simp
theorem inv_end {α : Type} {bound : Int} {d : List UInt8 → Option (α × List UInt8)} {st0 st : Option (List UInt8)} {L : List α} {n : Nat} (hN : Got (decN bound) st0 n) (h : Inv d (nxt (decN bound) st0) L st) (hn : L.length = n) :
    Got (decM bound d) st0 L ∧ nxt (decM bound d) st0 = st := by
  have h0 := h 0
  rw [Nat.add_zero] at h0
  have he : ∀ l : List UInt8, (decL d 0 l).map (fun y => (L ++ y.1, y.2)) = some (L, l) := fun l => by rw [decL, Option.map_some, List.append_nil]
  cases st0 with
  | none =>
    refine ⟨got_nil _ _, ?_⟩
    cases st with
    | none => rfl
    | some l => rw [Option.bind_some, he] at h0; cases h0
  | some l0 =>
    cases hd : decN bound l0 with
    | none =>
      rw [nxt_none hd] at h0
      have hm : decM bound d l0 = none := by rw [decM_is, hd]; rfl
      rw [nxt_none hm]
      refine ⟨fun y r e => ?_, ?_⟩
      · rw [Option.bind_some, hm] at e; cases e
      · cases st with
        | none => rfl
        | some l => rw [Option.bind_some, he] at h0; cases h0
    | some y =>
      obtain ⟨n', q⟩ := y
      have hnn := got_some hN hd
      subst hnn
      rw [nxt_some hd, Option.bind_some, hn] at h0
      have hm : decM bound d l0 = decL d n q := by rw [decM_is, hd]; rfl
      cases st with
      | none =>
        have h0' : decL d n q = none := h0
        rw [h0'] at hm
        rw [nxt_none hm]
        refine ⟨fun y r e => ?_, rfl⟩
        rw [Option.bind_some, hm] at e; cases e
      | some l =>
        rw [Option.bind_some, he] at h0
        rw [h0] at hm
        rw [nxt_some hm]
        refine ⟨fun y r e => ?_, rfl⟩
        rw [Option.bind_some, hm] at e; injection e with e; injection e
theorem len_N (bound : Int) (st : Option (List UInt8)) : lenO (nxt (decN bound) st) ≤ lenO st := by
  have h := len_I st
  cases st with
  | none => exact Nat.le_refl _
  | some l =>
    cases hd : decN bound l with
    | none => rw [nxt_none hd]; exact Nat.zero_le _
    | some y =>
      obtain ⟨n, q⟩ := y
      rw [nxt_some hd]
      unfold decN at hd
      cases hi : decI l with
      | none => rw [hi] at hd; cases hd
      | some x =>
        obtain ⟨i, q'⟩ := x
        rw [nxt_some hi] at h
        rw [hi, Option.bind_some] at hd
        simp only at hd
        split at hd
        · cases hd
        · injection hd with hd; injection hd with e1 e2; rw [← e2]; exact h
theorem len_C (st : Option (List UInt8)) : lenO (nxt decC st) ≤ lenO st := by
  rw [decC_nxt]
  exact Nat.le_trans (len_B _) (Nat.le_trans (len_B _) (Nat.le_trans (len_I _) (Nat.le_trans (len_I _) (Nat.le_trans (len_S _) (len_S _)))))
theorem len_G (st : Option (List UInt8)) : lenO (nxt decG st) ≤ lenO st := by
  rw [decG_nxt]
  exact Nat.le_trans (len_S _) (Nat.le_trans (len_I _) (len_I _))

theorem own_keep2 {w w' : World} {base : Nat} {e : TypeId} {size n m : Nat} {v : Value} {xs : List Value} (h : w.ownsRow base e size v n xs) (hb : w.grownBy w' (some m)) (hm : m < base) : w'.ownsRow base e size v n xs := by
  refine ⟨h.1, ?_⟩
  rcases h.2 with k | ⟨g, cap, cur, rfl, hg, hh, k⟩
  · exact .inl k
  · refine .inr ⟨g, cap, cur, rfl, hg, ?_, k⟩
    have hl : g < w.heap.size := by
      rcases Nat.lt_or_ge g w.heap.size with q | q
      · exact q
      · rw [Array.getElem?_eq_none q] at hh; cases hh
    rw [hb.block g hl (fun he => by injection he; omega)]; exact hh
theorem grown_own {w w1 w2 : World} {b : Nat} {row : Option Nat} (h : w.grownBy w1 (some b)) (k : w1.grownBy w2 row) (hr : ∀ g, row = some g → w.heap.size ≤ g) : w.grownBy w2 (some b) :=
  ⟨k.os.trans h.os, k.tape.trans h.tape, k.output.trans h.output, Nat.le_trans h.size k.size, fun j hj hne => (k.block j (Nat.lt_of_lt_of_le hj h.size) (fun e => by have := hr j e.symm; omega)).trans (h.block j hj hne)⟩
theorem info_grant : (Try.prog.info? 48).map (fun i => (i.zero, i.size, i.bytes)) = some (some (.agg #[.int .i64 0, .string ⟨#[]⟩, .int .i64 0]), 3, 32) := by kernel_rfl
end Go.Proofs.Ytlkeagfmlcbogaa

namespace Go.Proofs.Ytlkeagfmlcbogaa
open Go.RowKit

set_option maxRecDepth 100000 in
set_option maxHeartbeats 3200000 in
theorem takeLC_any (b : Nat) (bound : Int) (st : Option (List UInt8)) (w : World) (h : RdO w b st) (hl : lenO st ≤ 20000000) :
    Calls Try.prog 55 #[.pointer (some ⟨b, 0, none⟩), .int .i64 bound, .func (.func 56) #[] #[]] w fun e w' => ∃ v, ∃ L : List Co, e = .returned v ∧ (∀ c ∈ L, okC c) ∧ L.length ≤ lenO st ∧ Got (decM bound decC) st L ∧ RdO w' b (nxt (decM bound decC) st) ∧ w'.ownsRow w.heap.size 35 6 v L.length (L.flatMap Co.cs) ∧ w.grownBy w' (some b) := by
  have hbl := h.lt
  go_enter Try.func55, Try.ntmps55
  go_wp2_with fail
  refine (oM_any b bound st _ h hl).mono ?_
  rintro e w1 ⟨n, rfl, hn, -, kN, h1, g1⟩
  have lN := len_N bound st
  go_wp2_with fail
  go_loopw [7, 11] (fun v i wr => ∃ L : List Co, ∃ sK : Option (List UInt8), L.length ≤ n ∧ i = .int .i64 (L.length : Int) ∧ (∀ c ∈ L, okC c) ∧ Inv decC (nxt (decN bound) st) L sK ∧ lenO sK ≤ lenO st ∧ RdO wr b sK ∧ wr.ownsRow w.heap.size 35 6 v L.length (L.flatMap Co.cs) ∧ w.grownBy wr (some b)) (fun _ i _ => n - (intOf i).toNat)
  case atStart => exact ⟨[], nxt (decN bound) st, by simp, rfl, by simp, inv_zero _ _, lN, h1, World.ownsRow_nil _ _ _ 6, g1⟩
  case round =>
    clear h1 g1
    obtain ⟨L, sK, hLn, rfl, hok, hI, hlK, hR, hown, hg⟩ := hrel
    by_cases hlt : L.length < n
    · go_wp2_with fail
      refine (takeC_any b sK _ hR (by omega)).mono ?_
      rintro e w2 ⟨c, rfl, hc, kc, h2, g2⟩
      have hown2 := own_keep2 hown g2 (by omega)
      have hg2 := grownBy_tr hg g2
      have hI2 := inv_succ hI kc
      have hlC := len_C sK
      have hapart : ∀ g, u7.ownBlock = some g → w.heap.size ≤ g := fun g hg => (World.ownsRow.lt hown2 g hg).1
      have hle := hg2.size
      have HI2 := Lib.hid hI2
      clear hown hg g2 hI hI2 kc hR
      obtain ⟨nm, kd, nn, un, rf, dl⟩ := c
      unfold Co.val
      go_wp2_with (at_builtin; (refine wp_append1 rfl (.tmp 13) (.tmp 17) 36 rfl 35 6 56 _ Try.underlying36 info_col rfl (by omega) hown2 #[.string ⟨nm.toArray⟩, .int .i64 kd, .bool nn, .bool un, .string ⟨rf.toArray⟩, .int .i64 dl] 35 rfl rfl rfl rfl ?c1 (by omega) (by omega) hle ?_))
      case c1 => exact ⟨rfl, rfl, rfl, rfl, rfl, rfl⟩
      intro g cap w5 ho5 hg5 hlt5
      have h5 : RdO w5 b (nxt decC sK) := At.grown h2 hg5.grown (fun e => by have := hapart b e.symm; omega)
      have hg6 := grown_own hg2 hg5.grown hapart
      have HO5 := Lib.hid ho5
      clear ho5 hg5 hg2 hown2 h2 hapart
      go_wp2_with fail
      refine ⟨⟨L ++ [⟨nm, kd, nn, un, rf, dl⟩], nxt decC sK, by simp; omega, by rw [List.length_append]; go_num, ?_, HI2.out, by omega, h5, ?_, hg6⟩, by simp [intOf]; omega⟩
      · intro c hc'
        rcases List.mem_append.1 hc' with k | k
        · exact hok c k
        · rw [List.mem_singleton] at k; rw [k]; exact hc
      · rw [List.flatMap_append, List.length_append]; exact HO5.out
    · obtain hn2 : L.length = n := by omega
      have hE := inv_end kN hI hn2
      go_wp2_with fail
      go_ret
      exact ⟨_, L, rfl, hok, by omega, hE.1, by rw [hE.2]; exact hR, hown, hg⟩

set_option maxRecDepth 100000 in
set_option maxHeartbeats 3200000 in
theorem takeLG_any (b : Nat) (bound : Int) (st : Option (List UInt8)) (w : World) (h : RdO w b st) (hl : lenO st ≤ 20000000) :
    Calls Try.prog 30 #[.pointer (some ⟨b, 0, none⟩), .int .i64 bound, .func (.func 31) #[] #[]] w fun e w' => ∃ v, ∃ L : List Gr, e = .returned v ∧ (∀ c ∈ L, okG c) ∧ L.length ≤ lenO st ∧ Got (decM bound decG) st L ∧ RdO w' b (nxt (decM bound decG) st) ∧ w'.ownsRow w.heap.size 48 3 v L.length (L.flatMap Gr.cs) ∧ w.grownBy w' (some b) := by
  have hbl := h.lt
  go_enter Try.func30, Try.ntmps30
  go_wp2_with fail
  refine (oM_any b bound st _ h hl).mono ?_
  rintro e w1 ⟨n, rfl, hn, -, kN, h1, g1⟩
  have lN := len_N bound st
  go_wp2_with fail
  go_loopw [7, 11] (fun v i wr => ∃ L : List Gr, ∃ sK : Option (List UInt8), L.length ≤ n ∧ i = .int .i64 (L.length : Int) ∧ (∀ c ∈ L, okG c) ∧ Inv decG (nxt (decN bound) st) L sK ∧ lenO sK ≤ lenO st ∧ RdO wr b sK ∧ wr.ownsRow w.heap.size 48 3 v L.length (L.flatMap Gr.cs) ∧ w.grownBy wr (some b)) (fun _ i _ => n - (intOf i).toNat)
  case atStart => exact ⟨[], nxt (decN bound) st, by simp, rfl, by simp, inv_zero _ _, lN, h1, World.ownsRow_nil _ _ _ 3, g1⟩
  case round =>
    clear h1 g1
    obtain ⟨L, sK, hLn, rfl, hok, hI, hlK, hR, hown, hg⟩ := hrel
    by_cases hlt : L.length < n
    · go_wp2_with fail
      refine (takeG_any b sK _ hR (by omega)).mono ?_
      rintro e w2 ⟨c, rfl, hc, kc, h2, g2⟩
      have hown2 := own_keep2 hown g2 (by omega)
      have hg2 := grownBy_tr hg g2
      have hI2 := inv_succ hI kc
      have hlG := len_G sK
      have hapart : ∀ g, u7.ownBlock = some g → w.heap.size ≤ g := fun g hg => (World.ownsRow.lt hown2 g hg).1
      have hle := hg2.size
      have HI2 := Lib.hid hI2
      clear hown hg g2 hI hI2 kc hR
      obtain ⟨ro, tb, bi⟩ := c
      unfold Gr.val
      go_wp2_with (at_builtin; (refine wp_append1 rfl (.tmp 13) (.tmp 17) 23 rfl 48 3 32 _ Try.underlying23 info_grant rfl (by omega) hown2 #[.int .i64 ro, .string ⟨tb.toArray⟩, .int .i64 bi] 48 rfl rfl rfl rfl ?c1 (by omega) (by omega) hle ?_))
      case c1 => exact ⟨rfl, rfl, rfl⟩
      intro g cap w5 ho5 hg5 hlt5
      have h5 : RdO w5 b (nxt decG sK) := At.grown h2 hg5.grown (fun e => by have := hapart b e.symm; omega)
      have hg6 := grown_own hg2 hg5.grown hapart
      have HO5 := Lib.hid ho5
      clear ho5 hg5 hg2 hown2 h2 hapart
      go_wp2_with fail
      refine ⟨⟨L ++ [⟨ro, tb, bi⟩], nxt decG sK, by simp; omega, by rw [List.length_append]; go_num, ?_, HI2.out, by omega, h5, ?_, hg6⟩, by simp [intOf]; omega⟩
      · intro c hc'
        rcases List.mem_append.1 hc' with k | k
        · exact hok c k
        · rw [List.mem_singleton] at k; rw [k]; exact hc
      · rw [List.flatMap_append, List.length_append]; exact HO5.out
    · obtain hn2 : L.length = n := by omega
      have hE := inv_end kN hI hn2
      go_wp2_with fail
      go_ret
      exact ⟨_, L, rfl, hok, by omega, hE.1, by rw [hE.2]; exact hR, hown, hg⟩
end Go.Proofs.Ytlkeagfmlcbogaa
