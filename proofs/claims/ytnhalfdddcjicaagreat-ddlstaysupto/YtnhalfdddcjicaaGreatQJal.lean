/- The reader's steps as functions of the bytes that are left, if it has not failed; value.Take. -/
/- The walks of takeColumn and takeGrant; value.Take by the bytes that are left. -/
/- takeGrant's walk; value.Take by the bytes that are left. -/
/- Lists as the reader takes them: the loop's state; takeList for columns and grants. -/
import Derived.Test.YtnhalfdddcjicaaGreatQJaf
import Derived.Test.YtnhalfdddcjicaaGreatQJak
namespace Go.Proofs.YtnhalfdddcjicaaGreat
open Go.RowKit

theorem rdI_len (l : List UInt8) (f : Bool) : (rdI l f).2.1.length ≤ l.length := by unfold rdI; split <;> simp
theorem rdS_len (l : List UInt8) (f : Bool) : (rdS l f).2.1.length ≤ l.length ∧ (rdS l f).1.length ≤ l.length := by
  unfold rdS
  split
  · split
    · simp
    · simp; omega
  · simp
theorem rdI_i64 (l : List UInt8) (f : Bool) : I64 (rdI l f).1 := by
  unfold rdI
  split
  · rename_i u k hg
    exact unzig_i64 u (grp_ok l 0 0 u k (by omega) (by simp) hg).2.2
  · unfold I64; decide

/-- What leaves alone all but a block. -/
theorem grown_of_below {w w' : World} {row : Option Nat} (h : Below w.heap.size w w') : w.grownBy w' row := ⟨h.os, h.tape, h.output, h.size, fun k hk _ => h.block k hk⟩
theorem grown_put {w w' : World} {row : Option Nat} (h : w.grownBy w' row) {p : Addr} (hp : w.heap.size ≤ p.block) (u : Value) : w.grownBy (w'.setCell p u) row :=
  ⟨h.os, h.tape, h.output, by simpa [World.setCell] using h.size, fun k hk hne => (Below.heap_setCell _ _ _ _ (by omega)).trans (h.block k hk hne)⟩
theorem grown_put3 {w w' : World} {row : Option Nat} (h : w.grownBy w' row) (x y z : Value) : w.grownBy (((w'.setCell ⟨w.heap.size, 0, none⟩ x).setCell ⟨w.heap.size, 1, none⟩ y).setCell ⟨w.heap.size, 2, none⟩ z) row :=
  grown_put (grown_put (grown_put h (Nat.le_refl _) x) (Nat.le_refl _) y) (Nat.le_refl _) z
theorem grown_in {w w1 w2 : World} {row : Option Nat} (h : w.grownBy w1 row) (k : Below w1.heap.size w1 w2) : w.grownBy w2 row := grownBy_tr h (grown_of_below k)
theorem At.put3 {w : World} {g b : Nat} {t : TypeId} {cs : Array Value} (h : At w b t cs) (hne : b ≠ g) (x y z : Value) : At (((w.setCell ⟨g, 0, none⟩ x).setCell ⟨g, 1, none⟩ y).setCell ⟨g, 2, none⟩ z) b t cs :=
  ((h.elsewhere (p := ⟨g, 0, none⟩) hne x).elsewhere (p := ⟨g, 1, none⟩) hne y).elsewhere (p := ⟨g, 2, none⟩) hne z

def lenO (st : Option (List UInt8)) : Nat := (st.getD []).length
/-- What is left behind a step. -/
def nxt {α : Type} (d : List UInt8 → Option (α × List UInt8)) (st : Option (List UInt8)) : Option (List UInt8) := st.bind fun l => (d l).map (·.2)
/-- x is what the step gives, if it gives any. -/
def Got {α : Type} (d : List UInt8 → Option (α × List UInt8)) (st : Option (List UInt8)) (x : α) : Prop := ∀ y r, st.bind d = some (y, r) → x = y
theorem decI_of (l : List UInt8) : decI l = match grp 0 0 l with | some (u, k) => some (unzig u, l.drop k) | none => none := rfl
theorem len_I (st : Option (List UInt8)) : lenO (nxt decI st) ≤ lenO st := by
  cases st with
  | none => exact Nat.le_refl _
  | some l =>
    unfold nxt lenO
    cases h : decI l with
    | none => simp [h]
    | some x =>
      obtain ⟨n, r⟩ := x
      have := congrArg List.length (decI_sound h).1
      simp [h]
      rw [List.length_append] at this
      omega
theorem len_S (st : Option (List UInt8)) : lenO (nxt decS st) ≤ lenO st := by
  cases st with
  | none => exact Nat.le_refl _
  | some l =>
    unfold nxt lenO
    cases h : decS l with
    | none => simp [h]
    | some x =>
      obtain ⟨n, r⟩ := x
      have := congrArg List.length (decS_sound h)
      simp [h]
      rw [List.length_append] at this
      omega
theorem len_B (st : Option (List UInt8)) : lenO (nxt decB st) ≤ lenO st := by
  cases st with
  | none => exact Nat.le_refl _
  | some l =>
    unfold nxt lenO
    cases h : decB l with
    | none => simp [h]
    | some x =>
      obtain ⟨n, r⟩ := x
      have := congrArg List.length (decB_sound h)
      simp [h]
      rw [List.length_append] at this
      omega
/-- A count. -/
def decN (bound : Int) (l : List UInt8) : Option (Nat × List UInt8) := (decI l).bind fun x => if x.1 < 0 ∨ bound < x.1 ∨ (x.2.length : Int) < x.1 then none else some (x.1.toNat, x.2)
theorem decM_is {α : Type} (bound : Int) (d : List UInt8 → Option (α × List UInt8)) (l : List UInt8) : decM bound d l = (decN bound l).bind fun x => decL d x.1 x.2 := by
  unfold decM decN
  cases decI l with
  | none => rfl
  | some x =>
    rw [Option.bind_some, Option.bind_some]
    split <;> rfl
end Go.Proofs.YtnhalfdddcjicaaGreat

namespace Go.Proofs.YtnhalfdddcjicaaGreat
open Go.RowKit

theorem got_some {α : Type} {d : List UInt8 → Option (α × List UInt8)} {l : List UInt8} {x y : α} {r : List UInt8} (h : Got d (some l) x) (e : d l = some (y, r)) : x = y := h y r e
theorem nxt_some {α : Type} {d : List UInt8 → Option (α × List UInt8)} {l : List UInt8} {y : α} {r : List UInt8} (e : d l = some (y, r)) : nxt d (some l) = some r := by unfold nxt; rw [Option.bind_some, e]; rfl
theorem nxt_none {α : Type} {d : List UInt8 → Option (α × List UInt8)} {l : List UInt8} (e : d l = none) : nxt d (some l) = none := by unfold nxt; rw [Option.bind_some, e]; rfl
theorem nxt_nil {α : Type} (d : List UInt8 → Option (α × List UInt8)) : nxt d none = none := rfl
theorem got_nil {α : Type} (d : List UInt8 → Option (α × List UInt8)) (x : α) : Got d none x := fun _ _ h => by cases h

theorem decC_nxt (st : Option (List UInt8)) : nxt decC st = nxt decB (nxt decB (nxt decI (nxt decI (nxt decS (nxt decS st))))) := by
  cases st with
  | none => rfl
  | some l =>
    have hC : ∀ o : Option (Co × List UInt8), decC l = o → nxt decC (some l) = o.map (·.2) := fun o h => by unfold nxt; rw [Option.bind_some, h]
    unfold decC at hC
    cases h1 : decS l with
    | none => rw [nxt_none h1]; exact hC _ (by rw [h1])
    | some x1 =>
      obtain ⟨n, q1⟩ := x1
      rw [nxt_some h1]
      cases h2 : decS q1 with
      | none => rw [nxt_none h2]; exact hC none (by rw [h1, Option.bind_some]; simp only; rw [h2]; rfl)
      | some x2 =>
        obtain ⟨f, q2⟩ := x2
        rw [nxt_some h2]
        cases h3 : decI q2 with
        | none => rw [nxt_none h3]; exact hC none (by rw [h1, Option.bind_some]; simp only; rw [h2, Option.bind_some]; simp only; rw [h3]; rfl)
        | some x3 =>
          obtain ⟨k, q3⟩ := x3
          rw [nxt_some h3]
          cases h4 : decI q3 with
          | none => rw [nxt_none h4]; exact hC none (by rw [h1, Option.bind_some]; simp only; rw [h2, Option.bind_some]; simp only; rw [h3, Option.bind_some]; simp only; rw [h4]; rfl)
          | some x4 =>
            obtain ⟨d, q4⟩ := x4
            rw [nxt_some h4]
            cases h5 : decB q4 with
            | none => rw [nxt_none h5]; exact hC none (by rw [h1, Option.bind_some]; simp only; rw [h2, Option.bind_some]; simp only; rw [h3, Option.bind_some]; simp only; rw [h4, Option.bind_some]; simp only; rw [h5]; rfl)
            | some x5 =>
              obtain ⟨a, q5⟩ := x5
              rw [nxt_some h5]
              cases h6 : decB q5 with
              | none => rw [nxt_none h6]; exact hC none (by rw [h1, Option.bind_some]; simp only; rw [h2, Option.bind_some]; simp only; rw [h3, Option.bind_some]; simp only; rw [h4, Option.bind_some]; simp only; rw [h5, Option.bind_some]; simp only; rw [h6]; rfl)
              | some x6 =>
                obtain ⟨u, q6⟩ := x6
                rw [nxt_some h6]
                exact hC (some (⟨n, k, a, u, f, d⟩, q6)) (by rw [h1, Option.bind_some]; simp only; rw [h2, Option.bind_some]; simp only; rw [h3, Option.bind_some]; simp only; rw [h4, Option.bind_some]; simp only; rw [h5, Option.bind_some]; simp only; rw [h6]; rfl)
theorem decC_got {st : Option (List UInt8)} {n f : List UInt8} {k d : Int} {a u : Bool} (g1 : Got decS st n) (g2 : Got decS (nxt decS st) f) (g3 : Got decI (nxt decS (nxt decS st)) k) (g4 : Got decI (nxt decI (nxt decS (nxt decS st))) d)
    (g5 : Got decB (nxt decI (nxt decI (nxt decS (nxt decS st)))) a) (g6 : Got decB (nxt decB (nxt decI (nxt decI (nxt decS (nxt decS st))))) u) : Got decC st ⟨n, k, a, u, f, d⟩ := by
  cases st with
  | none => exact got_nil _ _
  | some l =>
    intro c r h
    rw [Option.bind_some] at h
    unfold decC at h
    simp only [Option.bind_eq_some_iff] at h
    obtain ⟨⟨n', q1⟩, h1, ⟨f', q2⟩, h2, ⟨k', q3⟩, h3, ⟨d', q4⟩, h4, ⟨a', q5⟩, h5, ⟨u', q6⟩, h6, h7⟩ := h
    injection h7 with h7; injection h7 with e1 e2
    subst e1
    dsimp only at *
    rw [nxt_some h1] at g2 g3 g4 g5 g6
    rw [nxt_some h2] at g3 g4 g5 g6
    rw [nxt_some h3] at g4 g5 g6
    rw [nxt_some h4] at g5 g6
    rw [nxt_some h5] at g6
    rw [got_some g1 h1, got_some g2 h2, got_some g3 h3, got_some g4 h4, got_some g5 h5, got_some g6 h6]
theorem decG_nxt (st : Option (List UInt8)) : nxt decG st = nxt decS (nxt decI (nxt decI st)) := by
  cases st with
  | none => rfl
  | some l =>
    have hC : ∀ o : Option (Gr × List UInt8), decG l = o → nxt decG (some l) = o.map (·.2) := fun o h => by unfold nxt; rw [Option.bind_some, h]
    unfold decG at hC
    cases h1 : decI l with
    | none => rw [nxt_none h1]; exact hC _ (by rw [h1])
    | some x1 =>
      obtain ⟨n, q1⟩ := x1
      rw [nxt_some h1]
      cases h2 : decI q1 with
      | none => rw [nxt_none h2]; exact hC none (by rw [h1, Option.bind_some]; simp only; rw [h2]; rfl)
      | some x2 =>
        obtain ⟨f, q2⟩ := x2
        rw [nxt_some h2]
        cases h3 : decS q2 with
        | none => rw [nxt_none h3]; exact hC none (by rw [h1, Option.bind_some]; simp only; rw [h2, Option.bind_some]; simp only; rw [h3]; rfl)
        | some x3 =>
          obtain ⟨k, q3⟩ := x3
          rw [nxt_some h3]
          exact hC (some (⟨n, k, f⟩, q3)) (by rw [h1, Option.bind_some]; simp only; rw [h2, Option.bind_some]; simp only; rw [h3]; rfl)
theorem decG_got {st : Option (List UInt8)} {n f : Int} {k : List UInt8} (g1 : Got decI st n) (g2 : Got decI (nxt decI st) f) (g3 : Got decS (nxt decI (nxt decI st)) k) : Got decG st ⟨n, k, f⟩ := by
  cases st with
  | none => exact got_nil _ _
  | some l =>
    intro c r h
    rw [Option.bind_some] at h
    unfold decG at h
    simp only [Option.bind_eq_some_iff] at h
    obtain ⟨⟨n', q1⟩, h1, ⟨f', q2⟩, h2, ⟨k', q3⟩, h3, h7⟩ := h
    injection h7 with h7; injection h7 with e1 e2
    subst e1
    dsimp only at *
    rw [nxt_some h1] at g2 g3
    rw [nxt_some h2] at g3
    rw [got_some g1 h1, got_some g2 h2, got_some g3 h3]

theorem grown_put6 {w w' : World} {row : Option Nat} (h : w.grownBy w' row) (x y z p q r : Value) : w.grownBy ((((((w'.setCell ⟨w.heap.size, 0, none⟩ x).setCell ⟨w.heap.size, 1, none⟩ y).setCell ⟨w.heap.size, 2, none⟩ z).setCell ⟨w.heap.size, 3, none⟩ p).setCell ⟨w.heap.size, 4, none⟩ q).setCell ⟨w.heap.size, 5, none⟩ r) row :=
  grown_put (grown_put (grown_put (grown_put3 h x y z) (Nat.le_refl _) p) (Nat.le_refl _) q) (Nat.le_refl _) r
theorem At.put6 {w : World} {g b : Nat} {t : TypeId} {cs : Array Value} (h : At w b t cs) (hne : b ≠ g) (x y z p q r : Value) : At ((((((w.setCell ⟨g, 0, none⟩ x).setCell ⟨g, 1, none⟩ y).setCell ⟨g, 2, none⟩ z).setCell ⟨g, 3, none⟩ p).setCell ⟨g, 4, none⟩ q).setCell ⟨g, 5, none⟩ r) b t cs :=
  (((h.put3 hne x y z).elsewhere (p := ⟨g, 3, none⟩) hne p).elsewhere (p := ⟨g, 4, none⟩) hne q).elsewhere (p := ⟨g, 5, none⟩) hne r
theorem At.six2 {w : World} {g : Nat} {t : TypeId} {x y z p q r : Value} (h : At w g t #[x, y, z, p, q, r]) : w.frozen? ⟨g, 0, none⟩ = false ∧ w.frozen? ⟨g, 1, none⟩ = false ∧ w.frozen? ⟨g, 2, none⟩ = false ∧
    w.frozen? ⟨g, 3, none⟩ = false ∧ w.frozen? ⟨g, 4, none⟩ = false ∧ w.frozen? ⟨g, 5, none⟩ = false := ⟨h.unfrozen 0, h.unfrozen 1, h.unfrozen 2, h.unfrozen 3, h.unfrozen 4, h.unfrozen 5⟩

end Go.Proofs.YtnhalfdddcjicaaGreat

namespace Go.Proofs.YtnhalfdddcjicaaGreat
open Go.RowKit

theorem At.tri2 {w : World} {g : Nat} {t : TypeId} {x y z : Value} (h : At w g t #[x, y, z]) : w.frozen? ⟨g, 0, none⟩ = false ∧ w.frozen? ⟨g, 1, none⟩ = false ∧ w.frozen? ⟨g, 2, none⟩ = false := ⟨h.unfrozen 0, h.unfrozen 1, h.unfrozen 2⟩
theorem At.tri1 {w : World} {g : Nat} {t : TypeId} {x y z : Value} (h : At w g t #[x, y, z]) : w.cell? ⟨g, 0, none⟩ = some x ∧ w.cell? ⟨g, 1, none⟩ = some y ∧ w.cell? ⟨g, 2, none⟩ = some z := ⟨h.cell 0, h.cell 1, h.cell 2⟩

theorem rdI_some {l r : List UInt8} {x : Int} (h : decI l = some (x, r)) : rdI l false = (x, r, false) := by
  rw [decI_of] at h; unfold rdI; split at h
  · rename_i hg; injection h with h; injection h with e1 e2; subst e1; subst e2; rw [hg]
  · cases h
theorem rdI_none {l : List UInt8} {f : Bool} (h : decI l = none) : rdI l f = (0, [], true) := by
  rw [decI_of] at h; unfold rdI; split at h
  · cases h
  · rename_i hg; rw [hg]
theorem rdI_fail : rdI [] true = (0, [], true) := by simp [rdI, grp]
theorem rdS_fail : rdS [] true = ([], [], true) := by simp [rdS, grp]
theorem rdS_some {l r t : List UInt8} (h : decS l = some (t, r)) : rdS l false = (t, r, false) := by
  unfold decS at h; rw [decI_of] at h; unfold rdS
  cases hg : grp 0 0 l with
  | none => rw [hg] at h; cases h
  | some x =>
    obtain ⟨u, k⟩ := x
    rw [hg] at h
    simp only [Option.bind_some] at h ⊢
    split at h
    · cases h
    · rename_i hb; rw [if_neg hb]; injection h with h; injection h with e1 e2; rw [e1, e2]
theorem rdS_none {l : List UInt8} {f : Bool} (h : decS l = none) : rdS l f = ([], [], true) := by
  unfold decS at h; rw [decI_of] at h; unfold rdS
  cases hg : grp 0 0 l with
  | none => rfl
  | some x =>
    obtain ⟨u, k⟩ := x
    rw [hg] at h
    simp only [Option.bind_some] at h ⊢
    split at h
    · rename_i hb; rw [if_pos hb]
    · cases h
/-- What value.Take leaves behind. -/
def leftO (st : Option (List UInt8)) (p : Vl × List UInt8 × Bool) : Prop := p.2.1 = st.getD [] ∧ p.2.2 = st.isNone
theorem takeP_fail : takeP [] true = (⟨0, 0, []⟩, [], true) := by unfold takeP; rw [rdI_fail]; simp only; rw [rdI_fail]; simp only; rw [rdS_fail]; split <;> rfl
theorem takeP_o (st : Option (List UInt8)) : Got decV st (takeP (st.getD []) st.isNone).1 ∧ leftO (nxt decV st) (takeP (st.getD []) st.isNone) := by
  cases st with
  | none => simp only [Option.getD_none, Option.isNone_none, takeP_fail]; exact ⟨got_nil _ _, rfl, rfl⟩
  | some l =>
    have hC : ∀ o, decV l = o → (o = none → leftO none (takeP l false)) → (∀ v r, o = some (v, r) → takeP l false = (v, r, false)) → Got decV (some l) (takeP l false).1 ∧ leftO (nxt decV (some l)) (takeP l false) := by
      intro o ho hn hs
      cases o with
      | none =>
        rw [nxt_none ho]
        refine ⟨fun y r e => ?_, hn rfl⟩
        rw [Option.bind_some, ho] at e
        cases e
      | some x =>
        obtain ⟨v, r⟩ := x
        rw [nxt_some ho, hs v r rfl]
        exact ⟨fun y r' e => by rw [Option.bind_some, ho] at e; injection e with e; injection e, rfl, rfl⟩
    show Got decV (some l) (takeP l false).1 ∧ leftO (nxt decV (some l)) (takeP l false)
    refine hC _ rfl ?_ ?_
    · intro ho
      unfold decV at ho
      unfold takeP
      cases h1 : decI l with
      | none => rw [rdI_none h1]; simp only; rw [rdI_fail]; simp only; rw [rdS_fail]; split <;> exact ⟨rfl, rfl⟩
      | some x1 =>
        obtain ⟨k, q1⟩ := x1
        rw [rdI_some h1]; simp only
        rw [h1, Option.bind_some] at ho; simp only at ho
        cases h2 : decI q1 with
        | none => rw [rdI_none h2]; simp only; rw [rdS_fail]; split <;> exact ⟨rfl, rfl⟩
        | some x2 =>
          obtain ⟨n, q2⟩ := x2
          rw [rdI_some h2]; simp only
          rw [h2, Option.bind_some] at ho; simp only at ho
          cases h3 : decS q2 with
          | none => rw [rdS_none h3]; split <;> exact ⟨rfl, rfl⟩
          | some x3 =>
            obtain ⟨t, q3⟩ := x3
            rw [rdS_some h3]; simp only
            rw [h3, Option.bind_some] at ho; simp only at ho
            split at ho
            · cases ho
            · rename_i hg; rw [if_neg hg]; exact ⟨rfl, rfl⟩
    · intro v r ho
      unfold decV at ho
      simp only [Option.bind_eq_some_iff] at ho
      obtain ⟨⟨k, q1⟩, h1, ⟨n, q2⟩, h2, ⟨t, q3⟩, h3, h4⟩ := ho
      dsimp only at *
      unfold takeP
      rw [rdI_some h1]; simp only
      rw [rdI_some h2]; simp only
      rw [rdS_some h3]; simp only
      split at h4
      · rename_i hg; rw [if_pos hg]; injection h4 with h4; injection h4 with e1 e2; rw [e1, e2]
      · cases h4

theorem takeP_good (l : List UInt8) (f : Bool) : goodV (takeP l f).1 = true := by
  unfold takeP; split
  · rename_i h; exact h
  · rw [goodV_iff]; exact .inl ⟨rfl, rfl, rfl⟩
theorem takeP_ok (l : List UInt8) (f : Bool) : I64 (takeP l f).1.kind ∧ I64 (takeP l f).1.num ∧ (takeP l f).1.text.length ≤ l.length ∧ (takeP l f).2.1.length ≤ l.length := by
  have l1 := rdI_len l f
  have l2 := rdI_len (rdI l f).2.1 (rdI l f).2.2
  have l3 := rdS_len (rdI (rdI l f).2.1 (rdI l f).2.2).2.1 (rdI (rdI l f).2.1 (rdI l f).2.2).2.2
  unfold takeP; split
  · exact ⟨rdI_i64 _ _, rdI_i64 _ _, by show List.length (rdS _ _).1 ≤ _; omega, by show List.length (rdS _ _).2.1 ≤ _; omega⟩
  · exact ⟨by unfold I64; decide, by unfold I64; decide, Nat.zero_le _, Nat.zero_le _⟩
theorem len_V (st : Option (List UInt8)) : lenO (nxt decV st) ≤ lenO st := by
  have h := (takeP_o st).2.1
  have k := (takeP_ok (st.getD []) st.isNone).2.2.2
  unfold lenO; rw [← h]; exact k

end Go.Proofs.YtnhalfdddcjicaaGreat

namespace Go.Proofs.YtnhalfdddcjicaaGreat
open Go.RowKit

/-- Behind k items: what was taken, what is left. -/
def Inv {α : Type} (d : List UInt8 → Option (α × List UInt8)) (s0 : Option (List UInt8)) (L : List α) (st : Option (List UInt8)) : Prop :=
  ∀ m, s0.bind (decL d (L.length + m)) = st.bind fun l => (decL d m l).map fun y => (L ++ y.1, y.2)
theorem inv_zero {α : Type} (d : List UInt8 → Option (α × List UInt8)) (s0 : Option (List UInt8)) : Inv d s0 [] s0 := by
  intro m
  cases s0 with
  | none => rfl
  | some l =>
    rw [Option.bind_some, Option.bind_some, List.length_nil, Nat.zero_add]
    cases decL d m l with
    | none => rfl
    | some y => rfl
theorem inv_succ {α : Type} {d : List UInt8 → Option (α × List UInt8)} {s0 : Option (List UInt8)} {L : List α} {st : Option (List UInt8)} {x : α} (h : Inv d s0 L st) (hx : Got d st x) : Inv d s0 (L ++ [x]) (nxt d st) := by
  intro m
  have h1 := h (m + 1)
  rw [List.length_append, List.length_cons, List.length_nil, Nat.zero_add, Nat.add_assoc, Nat.add_comm 1 m, h1]
  cases st with
  | none => rfl
  | some l =>
    rw [Option.bind_some, decL]
    cases hd : d l with
    | none => rw [nxt_none hd]; rfl
    | some y =>
      obtain ⟨x', r⟩ := y
      rw [nxt_some hd, Option.bind_some, Option.bind_some, got_some hx hd]
      simp only
      cases decL d m r with
      | none => rfl
      | some z => simp
theorem inv_end {α : Type} {bound : Int} {d : List UInt8 → Option (α × List UInt8)} {st0 st : Option (List UInt8)} {L : List α} {n : Nat} (hN : Got (decN bound) st0 n) (h : Inv d (nxt (decN bound) st0) L st) (hn : L.length = n) :
    Got (decM bound d) st0 L ∧ nxt (decM bound d) st0 = st := by
  have h0 := h 0
  rw [Nat.add_zero] at h0
  have he : ∀ l : List UInt8, (decL d 0 l).map (fun y => (L ++ y.1, y.2)) = some (L, l) := fun l => by rw [decL, Option.map_some, List.append_nil]
  cases st0 with
  | none =>
    refine ⟨got_nil _ _, ?_⟩
    cases st with
    | none => rfl
    | some l => rw [Option.bind_some, he] at h0; cases h0
  | some l0 =>
    cases hd : decN bound l0 with
    | none =>
      rw [nxt_none hd] at h0
      have hm : decM bound d l0 = none := by rw [decM_is, hd]; rfl
      rw [nxt_none hm]
      refine ⟨fun y r e => ?_, ?_⟩
      · rw [Option.bind_some, hm] at e; cases e
      · cases st with
        | none => rfl
        | some l => rw [Option.bind_some, he] at h0; cases h0
    | some y =>
      obtain ⟨n', q⟩ := y
      have hnn := got_some hN hd
      subst hnn
      rw [nxt_some hd, Option.bind_some, hn] at h0
      have hm : decM bound d l0 = decL d n q := by rw [decM_is, hd]; rfl
      cases st with
      | none =>
        have h0' : decL d n q = none := h0
        rw [h0'] at hm
        rw [nxt_none hm]
        refine ⟨fun y r e => ?_, rfl⟩
        rw [Option.bind_some, hm] at e; cases e
      | some l =>
        rw [Option.bind_some, he] at h0
        rw [h0] at hm
        rw [nxt_some hm]
        refine ⟨fun y r e => ?_, rfl⟩
        rw [Option.bind_some, hm] at e; injection e with e; injection e
theorem len_N (bound : Int) (st : Option (List UInt8)) : lenO (nxt (decN bound) st) ≤ lenO st := by
  have h := len_I st
  cases st with
  | none => exact Nat.le_refl _
  | some l =>
    cases hd : decN bound l with
    | none => rw [nxt_none hd]; exact Nat.zero_le _
    | some y =>
      obtain ⟨n, q⟩ := y
      rw [nxt_some hd]
      unfold decN at hd
      cases hi : decI l with
      | none => rw [hi] at hd; cases hd
      | some x =>
        obtain ⟨i, q'⟩ := x
        rw [nxt_some hi] at h
        rw [hi, Option.bind_some] at hd
        simp only at hd
        split at hd
        · cases hd
        · injection hd with hd; injection hd with e1 e2; rw [← e2]; exact h
theorem len_C (st : Option (List UInt8)) : lenO (nxt decC st) ≤ lenO st := by
  rw [decC_nxt]
  exact Nat.le_trans (len_B _) (Nat.le_trans (len_B _) (Nat.le_trans (len_I _) (Nat.le_trans (len_I _) (Nat.le_trans (len_S _) (len_S _)))))
theorem len_G (st : Option (List UInt8)) : lenO (nxt decG st) ≤ lenO st := by
  rw [decG_nxt]
  exact Nat.le_trans (len_S _) (Nat.le_trans (len_I _) (len_I _))

theorem own_keep2 {w w' : World} {base : Nat} {e : TypeId} {size n m : Nat} {v : Value} {xs : List Value} (h : w.ownsRow base e size v n xs) (hb : w.grownBy w' (some m)) (hm : m < base) : w'.ownsRow base e size v n xs := by
  refine ⟨h.1, ?_⟩
  rcases h.2 with k | ⟨g, cap, cur, rfl, hg, hh, k⟩
  · exact .inl k
  · refine .inr ⟨g, cap, cur, rfl, hg, ?_, k⟩
    have hl : g < w.heap.size := by
      rcases Nat.lt_or_ge g w.heap.size with q | q
      · exact q
      · rw [Array.getElem?_eq_none q] at hh; cases hh
    rw [hb.block g hl (fun he => by injection he; omega)]; exact hh
theorem grown_own {w w1 w2 : World} {b : Nat} {row : Option Nat} (h : w.grownBy w1 (some b)) (k : w1.grownBy w2 row) (hr : ∀ g, row = some g → w.heap.size ≤ g) : w.grownBy w2 (some b) :=
  ⟨k.os.trans h.os, k.tape.trans h.tape, k.output.trans h.output, Nat.le_trans h.size k.size, fun j hj hne => (k.block j (Nat.lt_of_lt_of_le hj h.size) (fun e => by have := hr j e.symm; omega)).trans (h.block j hj hne)⟩
theorem info_grant : (Tryz.prog.info? 50).map (fun i => (i.zero, i.size, i.bytes)) = some (some (.agg #[.int .i64 0, .string ⟨#[]⟩, .int .i64 0]), 3, 32) := by kernel_rfl
end Go.Proofs.YtnhalfdddcjicaaGreat
