/- The walks of takeColumn and takeGrant; value.Take by the bytes that are left. -/
import Derived.Test.YtlkeagfmlcbogaaSrA
namespace Go.Proofs.Ytlkeagfmlcbogaa
open Go.RowKit

theorem got_some {α : Type} {d : List UInt8 → Option (α × List UInt8)} {l : List UInt8} {x y : α} {r : List UInt8} (h : Got d (some l) x) (e : d l = some (y, r)) : x = y := h y r e
theorem nxt_some {α : Type} {d : List UInt8 → Option (α × List UInt8)} {l : List UInt8} {y : α} {r : List UInt8} (e : d l = some (y, r)) : nxt d (some l) = some r := by unfold nxt; rw [Option.bind_some, e]; rfl
theorem nxt_none {α : Type} {d : List UInt8 → Option (α × List UInt8)} {l : List UInt8} (e : d l = none) : nxt d (some l) = none := by unfold nxt; rw [Option.bind_some, e]; rfl
theorem nxt_nil {α : Type} (d : List UInt8 → Option (α × List UInt8)) : nxt d none = none := rfl
theorem got_nil {α : Type} (d : List UInt8 → Option (α × List UInt8)) (x : α) : Got d none x := fun _ _ h => by cases h

theorem decC_nxt (st : Option (List UInt8)) : nxt decC st = nxt decB (nxt decB (nxt decI (nxt decI (nxt decS (nxt decS st))))) := by
  cases st with
  | none => rfl
  | some l =>
    have hC : ∀ o : Option (Co × List UInt8), decC l = o → nxt decC (some l) = o.map (·.2) := fun o h => by unfold nxt; rw [Option.bind_some, h]
    unfold decC at hC
    cases h1 : decS l with
    | none => rw [nxt_none h1]; exact hC _ (by rw [h1])
    | some x1 =>
      obtain ⟨n, q1⟩ := x1
      rw [nxt_some h1]
      cases h2 : decS q1 with
      | none => rw [nxt_none h2]; exact hC none (by rw [h1, Option.bind_some]; simp only; rw [h2]; rfl)
      | some x2 =>
        obtain ⟨f, q2⟩ := x2
        rw [nxt_some h2]
        cases h3 : decI q2 with
        | none => rw [nxt_none h3]; exact hC none (by rw [h1, Option.bind_some]; simp only; rw [h2, Option.bind_some]; simp only; rw [h3]; rfl)
        | some x3 =>
          obtain ⟨k, q3⟩ := x3
          rw [nxt_some h3]
          cases h4 : decI q3 with
          | none => rw [nxt_none h4]; exact hC none (by rw [h1, Option.bind_some]; simp only; rw [h2, Option.bind_some]; simp only; rw [h3, Option.bind_some]; simp only; rw [h4]; rfl)
          | some x4 =>
            obtain ⟨d, q4⟩ := x4
            rw [nxt_some h4]
            cases h5 : decB q4 with
            | none => rw [nxt_none h5]; exact hC none (by rw [h1, Option.bind_some]; simp only; rw [h2, Option.bind_some]; simp only; rw [h3, Option.bind_some]; simp only; rw [h4, Option.bind_some]; simp only; rw [h5]; rfl)
            | some x5 =>
              obtain ⟨a, q5⟩ := x5
              rw [nxt_some h5]
              cases h6 : decB q5 with
              | none => rw [nxt_none h6]; exact hC none (by rw [h1, Option.bind_some]; simp only; rw [h2, Option.bind_some]; simp only; rw [h3, Option.bind_some]; simp only; rw [h4, Option.bind_some]; simp only; rw [h5, Option.bind_some]; simp only; rw [h6]; rfl)
              | some x6 =>
                obtain ⟨u, q6⟩ := x6
                rw [nxt_some h6]
                exact hC (some (⟨n, k, a, u, f, d⟩, q6)) (by rw [h1, Option.bind_some]; simp only; rw [h2, Option.bind_some]; simp only; rw [h3, Option.bind_some]; simp only; rw [h4, Option.bind_some]; simp only; rw [h5, Option.bind_some]; simp only; rw [h6]; rfl)
theorem decC_got {st : Option (List UInt8)} {n f : List UInt8} {k d : Int} {a u : Bool} (g1 : Got decS st n) (g2 : Got decS (nxt decS st) f) (g3 : Got decI (nxt decS (nxt decS st)) k) (g4 : Got decI (nxt decI (nxt decS (nxt decS st))) d)
    (g5 : Got decB (nxt decI (nxt decI (nxt decS (nxt decS st)))) a) (g6 : Got decB (nxt decB (nxt decI (nxt decI (nxt decS (nxt decS st))))) u) : Got decC st ⟨n, k, a, u, f, d⟩ := by
  cases st with
  | none => exact got_nil _ _
  | some l =>
    intro c r h
    rw [Option.bind_some] at h
    unfold decC at h
    simp only [Option.bind_eq_some_iff] at h
    obtain ⟨⟨n', q1⟩, h1, ⟨f', q2⟩, h2, ⟨k', q3⟩, h3, ⟨d', q4⟩, h4, ⟨a', q5⟩, h5, ⟨u', q6⟩, h6, h7⟩ := h
    injection h7 with h7; injection h7 with e1 e2
    subst e1
    dsimp only at *
    rw [nxt_some h1] at g2 g3 g4 g5 g6
    rw [nxt_some h2] at g3 g4 g5 g6
    rw [nxt_some h3] at g4 g5 g6
    rw [nxt_some h4] at g5 g6
    rw [nxt_some h5] at g6
    rw [got_some g1 h1, got_some g2 h2, got_some g3 h3, got_some g4 h4, got_some g5 h5, got_some g6 h6]
theorem decG_nxt (st : Option (List UInt8)) : nxt decG st = nxt decS (nxt decI (nxt decI st)) := by
  cases st with
  | none => rfl
  | some l =>
    have hC : ∀ o : Option (Gr × List UInt8), decG l = o → nxt decG (some l) = o.map (·.2) := fun o h => by unfold nxt; rw [Option.bind_some, h]
    unfold decG at hC
    cases h1 : decI l with
    | none => rw [nxt_none h1]; exact hC _ (by rw [h1])
    | some x1 =>
      obtain ⟨n, q1⟩ := x1
      rw [nxt_some h1]
      cases h2 : decI q1 with
      | none => rw [nxt_none h2]; exact hC none (by rw [h1, Option.bind_some]; simp only; rw [h2]; rfl)
      | some x2 =>
        obtain ⟨f, q2⟩ := x2
        rw [nxt_some h2]
        cases h3 : decS q2 with
        | none => rw [nxt_none h3]; exact hC none (by rw [h1, Option.bind_some]; simp only; rw [h2, Option.bind_some]; simp only; rw [h3]; rfl)
        | some x3 =>
          obtain ⟨k, q3⟩ := x3
          rw [nxt_some h3]
          exact hC (some (⟨n, k, f⟩, q3)) (by rw [h1, Option.bind_some]; simp only; rw [h2, Option.bind_some]; simp only; rw [h3]; rfl)
theorem decG_got {st : Option (List UInt8)} {n f : Int} {k : List UInt8} (g1 : Got decI st n) (g2 : Got decI (nxt decI st) f) (g3 : Got decS (nxt decI (nxt decI st)) k) : Got decG st ⟨n, k, f⟩ := by
  cases st with
  | none => exact got_nil _ _
  | some l =>
    intro c r h
    rw [Option.bind_some] at h
    unfold decG at h
    simp only [Option.bind_eq_some_iff] at h
    obtain ⟨⟨n', q1⟩, h1, ⟨f', q2⟩, h2, ⟨k', q3⟩, h3, h7⟩ := h
    injection h7 with h7; injection h7 with e1 e2
    subst e1
    dsimp only at *
    rw [nxt_some h1] at g2 g3
    rw [nxt_some h2] at g3
    rw [got_some g1 h1, got_some g2 h2, got_some g3 h3]

theorem grown_put6 {w w' : World} {row : Option Nat} (h : w.grownBy w' row) (x y z p q r : Value) : w.grownBy ((((((w'.setCell ⟨w.heap.size, 0, none⟩ x).setCell ⟨w.heap.size, 1, none⟩ y).setCell ⟨w.heap.size, 2, none⟩ z).setCell ⟨w.heap.size, 3, none⟩ p).setCell ⟨w.heap.size, 4, none⟩ q).setCell ⟨w.heap.size, 5, none⟩ r) row :=
  grown_put (grown_put (grown_put (grown_put3 h x y z) (Nat.le_refl _) p) (Nat.le_refl _) q) (Nat.le_refl _) r
theorem At.put6 {w : World} {g b : Nat} {t : TypeId} {cs : Array Value} (h : At w b t cs) (hne : b ≠ g) (x y z p q r : Value) : At ((((((w.setCell ⟨g, 0, none⟩ x).setCell ⟨g, 1, none⟩ y).setCell ⟨g, 2, none⟩ z).setCell ⟨g, 3, none⟩ p).setCell ⟨g, 4, none⟩ q).setCell ⟨g, 5, none⟩ r) b t cs :=
  (((h.put3 hne x y z).elsewhere (p := ⟨g, 3, none⟩) hne p).elsewhere (p := ⟨g, 4, none⟩) hne q).elsewhere (p := ⟨g, 5, none⟩) hne r
theorem At.six2 {w : World} {g : Nat} {t : TypeId} {x y z p q r : Value} (h : At w g t #[x, y, z, p, q, r]) : w.frozen? ⟨g, 0, none⟩ = false ∧ w.frozen? ⟨g, 1, none⟩ = false ∧ w.frozen? ⟨g, 2, none⟩ = false ∧
    w.frozen? ⟨g, 3, none⟩ = false ∧ w.frozen? ⟨g, 4, none⟩ = false ∧ w.frozen? ⟨g, 5, none⟩ = false := ⟨h.unfrozen 0, h.unfrozen 1, h.unfrozen 2, h.unfrozen 3, h.unfrozen 4, h.unfrozen 5⟩

set_option maxRecDepth 100000 in
set_option maxHeartbeats 1600000 in
theorem takeC_any (b : Nat) (st : Option (List UInt8)) (w : World) (h : RdO w b st) (hl : lenO st ≤ 1000000) :
    Calls Try.prog 56 #[.pointer (some ⟨b, 0, none⟩)] w fun e w' => ∃ c : Co, e = .returned c.val ∧ okC c ∧ Got decC st c ∧ RdO w' b (nxt decC st) ∧ w.grownBy w' (some b) := by
  have hbl := h.lt
  have hA := At.fresh w 35 #[.string ⟨#[]⟩, .int .i64 0, .bool false, .bool false, .string ⟨#[]⟩, .int .i64 0]
  have h0 : RdO (w.alloc (.cells #[.string ⟨#[]⟩, .int .i64 0, .bool false, .bool false, .string ⟨#[]⟩, .int .i64 0] 35)) b st := At.alloc h _
  have g0 : w.grownBy (w.alloc (.cells #[.string ⟨#[]⟩, .int .i64 0, .bool false, .bool false, .string ⟨#[]⟩, .int .i64 0] 35)) (some b) := World.grownBy_alloc _ _ _
  have hne : some w.heap.size ≠ some b := fun e => by injection e; omega
  have l1 := len_S st
  have l2 := len_S (nxt decS st)
  have l3 := len_I (nxt decS (nxt decS st))
  have l4 := len_I (nxt decI (nxt decS (nxt decS st)))
  have l5 := len_B (nxt decI (nxt decI (nxt decS (nxt decS st))))
  rw [decC_nxt]
  go_enter Try.func56, Try.ntmps56
  go_wp2_with fail
  refine (oS_any b st _ h0 hl).mono ?_
  rintro e w1 ⟨n, rfl, i1, k1, h1, r1⟩
  have hA1 := At.grown hA r1 hne
  have g1 := grownBy_tr g0 r1
  go_wp2_with fail
  refine (oS_any b _ _ h1 (by omega)).mono ?_
  rintro e w2 ⟨f, rfl, i2, k2, h2, r2⟩
  have hA2 := At.grown hA1 r2 hne
  have g2 := grownBy_tr g1 r2
  go_wp2_with fail
  refine (oI_any b _ _ h2 (by omega)).mono ?_
  rintro e w3 ⟨kd, rfl, i3, k3, h3, r3⟩
  have hA3 := At.grown hA2 r3 hne
  have g3 := grownBy_tr g2 r3
  go_wp2_with fail
  refine (oI_any b _ _ h3 (by omega)).mono ?_
  rintro e w4 ⟨dl, rfl, i4, k4, h4, r4⟩
  have hA4 := At.grown hA3 r4 hne
  have g4 := grownBy_tr g3 r4
  go_wp2_with fail
  refine (oB_any b _ _ h4 (by omega)).mono ?_
  rintro e w5 ⟨nn, rfl, k5, h5, r5⟩
  have hA5 := At.grown hA4 r5 hne
  have g5 := grownBy_tr g4 r5
  go_wp2_with fail
  refine (oB_any b _ _ h5 (by omega)).mono ?_
  rintro e w6 ⟨un, rfl, k6, h6, r6⟩
  have hA6 := At.grown hA5 r6 hne
  have g6 := grownBy_tr g5 r6
  have hG := decC_got k1 k2 k3 k4 k5 k6
  have HG := Lib.hid hG
  clear hA hA1 hA2 hA3 hA4 hA5 h0 h1 h2 h3 h4 h5 g0 g1 g2 g3 g4 g5 r1 r2 r3 r4 r5 r6 k1 k2 k3 k4 k5 k6 hG
  obtain ⟨c0, c1, c2, c3, c4, c5⟩ := hA6.six
  obtain ⟨f0, f1, f2, f3, f4, f5⟩ := hA6.six2
  go_wp2_with fail
  refine bodyPost_ret (v := (⟨n, kd, nn, un, f, dl⟩ : Co).val) (by simp [results, Try.results56, go_sem, Co.val, c0, c1, c2, c3, c4, c5]) rfl ⟨⟨n, kd, nn, un, f, dl⟩, rfl, ⟨i3, i4, by show n.length ≤ _; omega, by show f.length ≤ _; omega⟩, HG.out, ?_, grown_put6 g6 _ _ _ _ _ _⟩
  exact At.put6 h6 (by omega) _ _ _ _ _ _
end Go.Proofs.Ytlkeagfmlcbogaa
