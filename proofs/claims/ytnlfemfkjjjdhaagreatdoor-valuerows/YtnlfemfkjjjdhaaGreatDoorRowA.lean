/- The two readers' steps, by the functions of RowM; the walks of Take (package value, and the reference of layer 3). -/
import Derived.Test.YtnlfemfkjjjdhaaGreatDoorRowM
import Derived.Test.YtnlfemfkjjjdhaaGreatDoorPackH
import Derived.Test.YtnlfemfkjjjdhaaGreatDoorRefS
import Derived.Test.YtnlfemfkjjjdhaaGreatDoorValG
namespace Go.Proofs.YtnlfemfkjjjdhaaGreatDoor
open Go.RowKit

theorem rI_any (b : Nat) (l : List UInt8) (f : Bool) (w : World) (h : Rd w b l f) (hl : l.length ≤ maxLen) :
    Calls Tryz.prog 50 #[.pointer (some ⟨b, 0, none⟩)] w fun e w' => e = .returned (.int .i64 (rdI l f).1) ∧ Rd w' b (rdI l f).2.1 (rdI l f).2.2 ∧ w.grownBy w' (some b) := by
  unfold rdI
  cases hg : grp 0 0 l with
  | none => exact rint_none b l f w h hl hg
  | some x => obtain ⟨u, k⟩ := x; exact rint_some b l f w h hl u k hg
theorem rS_any (b : Nat) (l : List UInt8) (f : Bool) (w : World) (h : Rd w b l f) (hl : l.length ≤ maxLen) :
    Calls Tryz.prog 51 #[.pointer (some ⟨b, 0, none⟩)] w fun e w' => e = .returned (.string ⟨(rdS l f).1.toArray⟩) ∧ Rd w' b (rdS l f).2.1 (rdS l f).2.2 ∧ w.grownBy w' (some b) := by
  unfold rdS
  cases hg : grp 0 0 l with
  | none => exact rstr_none b l f w h hl hg
  | some x =>
    obtain ⟨u, k⟩ := x
    simp only
    by_cases hb : unzig u < 0 ∨ ((l.drop k).length : Int) < unzig u
    · rw [if_pos hb]
      exact rstr_bad b l f w h hl u k hg hb
    · rw [if_neg hb]
      exact rstr_ok b l (l.drop k) f w h hl u k (unzig u).toNat hg rfl (show _ = _ by omega) (by omega)
theorem rM_any (b : Nat) (l : List UInt8) (f : Bool) (w : World) (h : Rd w b l f) (hl : l.length ≤ maxLen) :
    Calls Tryz.prog 45 #[.pointer (some ⟨b, 0, none⟩), .int .i64 6] w fun e w' => e = .returned (.int .i64 ((rdM l f).1 : Int)) ∧ Rd w' b (rdM l f).2.1 (rdM l f).2.2 ∧ w.grownBy w' (some b) := by
  unfold rdM
  cases hg : grp 0 0 l with
  | none => exact rmany_none b l f 6 w h hl hg
  | some x =>
    obtain ⟨u, k⟩ := x
    simp only
    by_cases hb : unzig u < 0 ∨ 6 < unzig u ∨ ((l.drop k).length : Int) < unzig u
    · rw [if_pos hb]
      exact rmany_bad b l f 6 w h hl u k hg hb
    · rw [if_neg hb]
      exact rmany_ok b l (l.drop k) f 6 ((unzig u).toNat : Int) w h hl u k hg rfl (show _ = _ by omega) (by omega) (by omega) (by omega)
theorem rM_neg (b : Nat) (l : List UInt8) (f : Bool) (w : World) (h : Rd w b l f) (hl : l.length ≤ maxLen) :
    Calls Tryz.prog 45 #[.pointer (some ⟨b, 0, none⟩), .int .i64 (-1)] w fun e w' => e = .returned (.int .i64 0) ∧ Rd w' b [] true ∧ w.grownBy w' (some b) := by
  cases hg : grp 0 0 l with
  | none => exact rmany_none b l f (-1) w h hl hg
  | some x => obtain ⟨u, k⟩ := x; exact rmany_bad b l f (-1) w h hl u k hg (by omega)

theorem fI_any (m : Nat) (l : List UInt8) (p : Nat) (bad : Bool) (w : World) (h : Rf w m l p bad) (hl : l.length ≤ 1000000) (hp : p ≤ l.length) :
    Calls Tryz.prog 52 #[.pointer (some ⟨m, 0, none⟩)] w fun e w' => e = .returned (.int .i64 (rfI l p bad).1) ∧ Rf w' m l (rfI l p bad).2.1 (rfI l p bad).2.2 ∧ w.grownBy w' (some m) := by
  unfold rfI
  cases bad with
  | true => exact (rf_bad m l p w h).mono fun e w' ⟨h1, h2⟩ => ⟨h1, h2 ▸ h, h2 ▸ World.grownBy.refl w _⟩
  | false =>
    rw [if_neg (by decide)]
    cases hg : grp 0 0 (l.drop p) with
    | none => exact rf_none m l p w h hl hp hg
    | some x => obtain ⟨u, k⟩ := x; exact rf_some m l p w h hl hp u k _ hg rfl
theorem fS_any (m : Nat) (l : List UInt8) (p : Nat) (bad : Bool) (w : World) (h : Rf w m l p bad) (hl : l.length ≤ 1000000) (hp : p ≤ l.length) :
    Calls Tryz.prog 53 #[.pointer (some ⟨m, 0, none⟩)] w fun e w' => e = .returned (.string ⟨(rfS l p bad).1.toArray⟩) ∧ Rf w' m l (rfS l p bad).2.1 (rfS l p bad).2.2 ∧ w.grownBy w' (some m) := by
  unfold rfS
  cases bad with
  | true => exact rfs_bad m l p w h
  | false =>
    rw [if_neg (by decide)]
    cases hg : grp 0 0 (l.drop p) with
    | none => exact rfs_none m l p w h hl hp hg
    | some x =>
      obtain ⟨u, k⟩ := x
      have hk := grp_le hg
      rw [List.length_drop] at hk
      simp only
      by_cases hb : unzig u < 0 ∨ (l.length : Int) - (p + k : Nat) < unzig u
      · rw [if_pos hb]
        exact rfs_out m l p (p + k) w h hl hp u k _ hg rfl rfl (by omega) hb
      · rw [if_neg hb]
        exact rfs_ok m l p (p + k) w h hl hp u k (unzig u).toNat hg (show _ = _ by omega) rfl (by omega)
theorem fM_any (m : Nat) (l : List UInt8) (p : Nat) (bad : Bool) (w : World) (h : Rf w m l p bad) (hl : l.length ≤ 1000000) (hp : p ≤ l.length) :
    Calls Tryz.prog 47 #[.pointer (some ⟨m, 0, none⟩), .int .i64 6] w fun e w' => e = .returned (.int .i64 ((rfM l p bad).1 : Int)) ∧ Rf w' m l (rfM l p bad).2.1 (rfM l p bad).2.2 ∧ w.grownBy w' (some m) := by
  unfold rfM
  cases bad with
  | true => exact rfm_bad m l p 6 w h hl hp
  | false =>
    rw [if_neg (by decide)]
    cases hg : grp 0 0 (l.drop p) with
    | none => exact rfm_none m l p 6 w h hl hp hg
    | some x =>
      obtain ⟨u, k⟩ := x
      have hk := grp_le hg
      rw [List.length_drop] at hk
      simp only
      by_cases hb : unzig u < 0 ∨ 6 < unzig u ∨ (l.length : Int) - (p + k : Nat) < unzig u
      · rw [if_pos hb]
        exact rfm_out m l p (p + k) 6 w h hl hp u k _ hg rfl rfl (by omega) hb
      · rw [if_neg hb]
        exact rfm_ok m l p (p + k) 6 w h hl hp u k ((unzig u).toNat : Int) hg (show _ = _ by omega) rfl (by omega) (by omega) (by omega) (by omega)

theorem rdI_len (l : List UInt8) (f : Bool) : (rdI l f).2.1.length ≤ l.length := by unfold rdI; split <;> simp
theorem rdS_len (l : List UInt8) (f : Bool) : (rdS l f).2.1.length ≤ l.length ∧ (rdS l f).1.length ≤ l.length := by
  unfold rdS
  split
  · split
    · simp
    · simp; omega
  · simp
theorem rdI_i64 (l : List UInt8) (f : Bool) : I64 (rdI l f).1 := by
  unfold rdI
  split
  · rename_i u k hg
    exact unzig_i64 u (grp_ok l 0 0 u k (by omega) (by simp) hg).2.2
  · unfold I64; decide

/-- What leaves alone all but a block. -/
theorem grown_of_below {w w' : World} {row : Option Nat} (h : Below w.heap.size w w') : w.grownBy w' row := ⟨h.os, h.tape, h.output, h.size, fun k hk _ => h.block k hk⟩
theorem grown_put {w w' : World} {row : Option Nat} (h : w.grownBy w' row) {p : Addr} (hp : w.heap.size ≤ p.block) (u : Value) : w.grownBy (w'.setCell p u) row :=
  ⟨h.os, h.tape, h.output, by simpa [World.setCell] using h.size, fun k hk hne => (Below.heap_setCell _ _ _ _ (by omega)).trans (h.block k hk hne)⟩
theorem grown_put3 {w w' : World} {row : Option Nat} (h : w.grownBy w' row) (x y z : Value) : w.grownBy (((w'.setCell ⟨w.heap.size, 0, none⟩ x).setCell ⟨w.heap.size, 1, none⟩ y).setCell ⟨w.heap.size, 2, none⟩ z) row :=
  grown_put (grown_put (grown_put h (Nat.le_refl _) x) (Nat.le_refl _) y) (Nat.le_refl _) z
theorem grown_in {w w1 w2 : World} {row : Option Nat} (h : w.grownBy w1 row) (k : Below w1.heap.size w1 w2) : w.grownBy w2 row := grownBy_tr h (grown_of_below k)
theorem At.put3 {w : World} {g b : Nat} {t : TypeId} {cs : Array Value} (h : At w b t cs) (hne : b ≠ g) (x y z : Value) : At (((w.setCell ⟨g, 0, none⟩ x).setCell ⟨g, 1, none⟩ y).setCell ⟨g, 2, none⟩ z) b t cs :=
  ((h.elsewhere (p := ⟨g, 0, none⟩) hne x).elsewhere (p := ⟨g, 1, none⟩) hne y).elsewhere (p := ⟨g, 2, none⟩) hne z

set_option maxRecDepth 100000 in
set_option maxHeartbeats 1600000 in
theorem vtake_any (b : Nat) (l : List UInt8) (f : Bool) (w : World) (h : Rd w b l f) (hl : l.length ≤ 1000000) :
    Calls Tryz.prog 23 #[.pointer (some ⟨b, 0, none⟩)] w fun e w' => e = .returned (takeP l f).1.val ∧ Rd w' b (takeP l f).2.1 (takeP l f).2.2 ∧ w.grownBy w' (some b) := by
  have hbl := At.lt h
  have i1 := rdI_i64 l f
  have l1 := rdI_len l f
  have HT : Hid (takeP l f = if goodV ⟨(rdI l f).1, (rdI (rdI l f).2.1 (rdI l f).2.2).1, (rdS (rdI (rdI l f).2.1 (rdI l f).2.2).2.1 (rdI (rdI l f).2.1 (rdI l f).2.2).2.2).1⟩ = true
  then (⟨(rdI l f).1, (rdI (rdI l f).2.1 (rdI l f).2.2).1, (rdS (rdI (rdI l f).2.1 (rdI l f).2.2).2.1 (rdI (rdI l f).2.1 (rdI l f).2.2).2.2).1⟩, (rdS (rdI (rdI l f).2.1 (rdI l f).2.2).2.1 (rdI (rdI l f).2.1 (rdI l f).2.2).2.2).2)
  else (⟨0, 0, []⟩, [], true)) := rfl
  have hA := At.fresh w 23 #[.int .i64 0, .int .i64 0, .string ⟨#[]⟩]
  have h0 : Rd (w.alloc (.cells #[.int .i64 0, .int .i64 0, .string ⟨#[]⟩] 23)) b l f := At.alloc h _
  have g0 : w.grownBy (w.alloc (.cells #[.int .i64 0, .int .i64 0, .string ⟨#[]⟩] 23)) (some b) := World.grownBy_alloc _ _ _
  have hne : some w.heap.size ≠ some b := fun e => by injection e; omega
  go_enter Tryz.func23, Tryz.ntmps23
  go_wp2_with fail
  refine (rI_any b l f _ h0 (by unfold maxLen; omega)).mono ?_
  rintro e w1 ⟨rfl, h1, r1⟩
  have hA1 := At.grown hA r1 hne
  have g1 := grownBy_tr g0 r1
  generalize rdI l f = a at *
  obtain ⟨k, l', f'⟩ := a
  simp only at i1 l1 h1 HT ⊢
  have i2 := rdI_i64 l' f'
  have l2 := rdI_len l' f'
  clear hA h0 g0 r1
  go_wp2_with fail
  refine (rI_any b l' f' _ h1 (by unfold maxLen; omega)).mono ?_
  rintro e w2 ⟨rfl, h2, r2⟩
  have hA2 := At.grown hA1 r2 hne
  have g2 := grownBy_tr g1 r2
  generalize rdI l' f' = a at *
  obtain ⟨n, l2', f2'⟩ := a
  simp only at i2 l2 h2 HT ⊢
  have l3 := rdS_len l2' f2'
  clear hA1 h1 g1 r2
  go_wp2_with fail
  refine (rS_any b l2' f2' _ h2 (by unfold maxLen; omega)).mono ?_
  rintro e w3 ⟨rfl, h3, r3⟩
  have hA3 := At.grown hA2 r3 hne
  have g3 := grownBy_tr g2 r3
  generalize rdS l2' f2' = a at *
  obtain ⟨t, l3', f3'⟩ := a
  simp only at l3 h3 HT ⊢
  clear hA2 h2 g2 r3
  have hok : (Vl.mk k n t).Ok := ⟨i1, i2, by show t.length ≤ maxLen; unfold maxLen; omega⟩
  have HO := Lib.hid hok
  have b4 := below_box w3 (.cells #[.int .i64 k, .int .i64 n, .string ⟨t.toArray⟩] 23)
  have hA4 := hA3.alloc (.cells #[.int .i64 k, .int .i64 n, .string ⟨t.toArray⟩] 23)
  have hV4 := At.fresh w3 23 #[.int .i64 k, .int .i64 n, .string ⟨t.toArray⟩]
  have h4 : Rd (w3.alloc (.cells #[.int .i64 k, .int .i64 n, .string ⟨t.toArray⟩] 23)) b l3' f3' := At.alloc h3 _
  have g4 := grown_in g3 b4
  clear hok
  go_wp2_with fail
  refine (vgood_any ⟨k, n, t⟩ HO.out _).mono ?_
  rintro e w5 ⟨rfl, b5⟩
  have hA5 := hA4.below b5 hA4.lt
  have hV5 := hV4.below b5 hV4.lt
  have h5 : Rd w5 b l3' f3' := At.below h4 b5 (At.lt h4)
  have g5 := grown_in g4 b5
  clear hA3 hA4 hV4 h3 h4 g3 g4 b4 b5
  have v0 : w5.cell? ⟨w3.heap.size, 0, none⟩ = some (.int .i64 k) := At.cell hV5 0
  have v1 : w5.cell? ⟨w3.heap.size, 1, none⟩ = some (.int .i64 n) := At.cell hV5 1
  have v2 : w5.cell? ⟨w3.heap.size, 2, none⟩ = some (.string ⟨t.toArray⟩) := At.cell hV5 2
  have c0 : w5.cell? ⟨w.heap.size, 0, none⟩ = some (.int .i64 0) := At.cell hA5 0
  have c1 : w5.cell? ⟨w.heap.size, 1, none⟩ = some (.int .i64 0) := At.cell hA5 1
  have c2 : w5.cell? ⟨w.heap.size, 2, none⟩ = some (.string ⟨#[]⟩) := At.cell hA5 2
  have f0 := At.unfrozen hA5 0
  have f1 := At.unfrozen hA5 1
  have f2 := At.unfrozen hA5 2
  cases hg : goodV ⟨k, n, t⟩ with
  | true =>
    have HT2 := Lib.hid (HT.out.trans (if_pos hg))
    go_wp2_with fail
    refine bodyPost_ret (v := (takeP l f).1.val) (by rw [HT2.out]; simp [results, Tryz.results23, go_sem, Vl.val, c0, c1, c2]) rfl ⟨rfl, ?_, grown_put3 g5 _ _ _⟩
    rw [HT2.out]
    exact At.put3 h5 (by omega) _ _ _
  | false =>
    have HT2 := Lib.hid (HT.out.trans (if_neg (by rw [hg]; decide)))
    go_wp2_with fail
    refine (rM_neg b l3' f3' _ h5 (by unfold maxLen; omega)).mono ?_
    rintro e w6 ⟨rfl, h6, r6⟩
    have hA6 := At.grown hA5 r6 hne
    have g6 := grownBy_tr g5 r6
    have d0 : w6.cell? ⟨w.heap.size, 0, none⟩ = some (.int .i64 0) := At.cell hA6 0
    have d1 : w6.cell? ⟨w.heap.size, 1, none⟩ = some (.int .i64 0) := At.cell hA6 1
    have d2 : w6.cell? ⟨w.heap.size, 2, none⟩ = some (.string ⟨#[]⟩) := At.cell hA6 2
    have e0 := At.unfrozen hA6 0
    have e1 := At.unfrozen hA6 1
    have e2 := At.unfrozen hA6 2
    clear c0 c1 c2 f0 f1 f2 v0 v1 v2
    go_wp2_with fail
    refine bodyPost_ret (v := (takeP l f).1.val) (by rw [HT2.out]; simp [results, Tryz.results23, go_sem, Vl.val, d0, d1, d2]) rfl ⟨rfl, ?_, grown_put3 g6 _ _ _⟩
    rw [HT2.out]
    exact At.put3 h6 (by omega) _ _ _
end Go.Proofs.YtnlfemfkjjjdhaaGreatDoor
