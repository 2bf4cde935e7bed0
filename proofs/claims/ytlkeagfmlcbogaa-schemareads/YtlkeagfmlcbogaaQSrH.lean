/- takeTable. -/
import Derived.Test.YtlkeagfmlcbogaaQSrG
import Derived.Test.YtlkeagfmlcbogaaQSCa
namespace Go.Proofs.Ytlkeagfmlcbogaa
open Go.RowKit

/-- A table in memory whose rows lie in chosen blocks. -/
structure NewT (p : Nat → Prop) (w : World) (t : Tb) : Prop where
  inT : InT w t
  colsAt : 0 < t.cn → ∃ g, t.cA = some ⟨g, 0, none⟩ ∧ p g ∧ g < w.heap.size
  chkAt : RowP p w t.eA t.en t.chk
theorem RowP.keep2 {p q : Nat → Prop} {w w' : World} {A : Option Addr} {n : Nat} {arg : Nat → Ex} (h : RowP p w A n arg) (hs : w.heap.size ≤ w'.heap.size) (hk : ∀ b, p b → b < w.heap.size → w'.heap[b]? = w.heap[b]?) (hq : ∀ b, p b → b < w.heap.size → q b) : RowP q w' A n arg := fun hn => by
  obtain ⟨b, off, e1, e0, e2, e3⟩ := h hn
  exact ⟨b, off, e1, hq b e0 e2, Nat.lt_of_lt_of_le e2 hs, fun j hj => ⟨(e3 j hj).1.keep fun i => World.cell?_of_block (a := ⟨b, i, none⟩) (hk b e0 e2), (e3 j hj).2.keep2 hs hk hq⟩⟩
theorem NewT.keep {p q : Nat → Prop} {w w' : World} {t : Tb} (h : NewT p w t) (hs : w.heap.size ≤ w'.heap.size) (hk : ∀ b, p b → b < w.heap.size → w'.heap[b]? = w.heap[b]?) (hq : ∀ b, p b → b < w.heap.size → q b) : NewT q w' t where
  inT := ⟨h.inT.owner, h.inT.name, h.inT.cmax, h.inT.emax, ⟨h.inT.cols.1, h.inT.cols.2.1, fun hn => by
    obtain ⟨b, off, e1, e2, e3⟩ := h.inT.cols.2.2 hn
    obtain ⟨g, f1, f2, f3⟩ := h.colsAt hn
    rw [e1] at f1
    have hbg : b = g := by injection f1 with f1; injection f1
    subst hbg
    exact ⟨b, off, e1, Nat.lt_of_lt_of_le e2 hs, fun j hj => (e3 j hj).keep fun i => World.cell?_of_block (a := ⟨b, i, none⟩) (hk b f2 f3)⟩⟩, (h.chkAt.keep2 hs hk hq).rowE⟩
  colsAt := fun hn => by
    obtain ⟨g, f1, f2, f3⟩ := h.colsAt hn
    exact ⟨g, f1, hq g f2 f3, Nat.lt_of_lt_of_le f3 hs⟩
  chkAt := h.chkAt.keep2 hs hk hq
/-- The table, wherever it lies. -/
def treeT (t : Tb) : Td := ⟨t.name, t.owner, t.cols, (List.range t.en).map fun j => treeE (t.chk j)⟩
def TookT (b : Nat) (st : Option (List UInt8)) (w : World) (e : Ending) (w' : World) : Prop :=
  ∃ t : Tb, e = .returned t.val ∧ NewT (fun k => w.heap.size ≤ k) w' t ∧ Got decT st (treeT t) ∧ RdO w' b (nxt decT st) ∧ w.grownBy w' (some b)

theorem decT_nxt (st : Option (List UInt8)) : nxt decT st = nxt (decM 4 (decE 8)) (nxt (decM 6 decC) (nxt decI (nxt decS st))) := by
  cases st with
  | none => rfl
  | some l =>
    have hC : ∀ o : Option (Td × List UInt8), decT l = o → nxt decT (some l) = o.map (·.2) := fun o h => by unfold nxt; rw [Option.bind_some, h]
    unfold decT at hC
    cases h1 : decS l with
    | none => rw [nxt_none h1]; exact hC none (by rw [h1]; rfl)
    | some x1 =>
      obtain ⟨n, q1⟩ := x1
      rw [nxt_some h1]
      cases h2 : decI q1 with
      | none => rw [nxt_none h2]; exact hC none (by rw [h1, Option.bind_some]; simp only; rw [h2]; rfl)
      | some x2 =>
        obtain ⟨f, q2⟩ := x2
        rw [nxt_some h2]
        cases h3 : decM 6 decC q2 with
        | none => rw [nxt_none h3]; exact hC none (by rw [h1, Option.bind_some]; simp only; rw [h2, Option.bind_some]; simp only; rw [h3]; rfl)
        | some x3 =>
          obtain ⟨k, q3⟩ := x3
          rw [nxt_some h3]
          cases h4 : decM 4 (decE 8) q3 with
          | none => rw [nxt_none h4]; exact hC none (by rw [h1, Option.bind_some]; simp only; rw [h2, Option.bind_some]; simp only; rw [h3, Option.bind_some]; simp only; rw [h4]; rfl)
          | some x4 =>
            obtain ⟨a, q4⟩ := x4
            rw [nxt_some h4]
            exact hC (some (⟨n, f, k, a⟩, q4)) (by rw [h1, Option.bind_some]; simp only; rw [h2, Option.bind_some]; simp only; rw [h3, Option.bind_some]; simp only; rw [h4]; rfl)
theorem decT_got {st : Option (List UInt8)} {n : List UInt8} {f : Int} {k : List Co} {a : List Et} (g1 : Got decS st n) (g2 : Got decI (nxt decS st) f) (g3 : Got (decM 6 decC) (nxt decI (nxt decS st)) k) (g4 : Got (decM 4 (decE 8)) (nxt (decM 6 decC) (nxt decI (nxt decS st))) a) : Got decT st ⟨n, f, k, a⟩ := by
  cases st with
  | none => exact got_nil _ _
  | some l =>
    intro c r h
    rw [Option.bind_some] at h
    unfold decT at h
    simp only [Option.bind_eq_some_iff] at h
    obtain ⟨⟨n', q1⟩, h1, ⟨f', q2⟩, h2, ⟨k', q3⟩, h3, ⟨a', q4⟩, h4, h7⟩ := h
    injection h7 with h7; injection h7 with e1 e2
    subst e1
    dsimp only at *
    rw [nxt_some h1] at g2 g3 g4
    rw [nxt_some h2] at g3 g4
    rw [nxt_some h3] at g4
    rw [got_some g1 h1, got_some g2 h2, got_some g3 h3, got_some g4 h4]
theorem At.put4 {w : World} {g b : Nat} {t : TypeId} {cs : Array Value} (h : At w b t cs) (hne : b ≠ g) (x y z p : Value) : At ((((w.setCell ⟨g, 0, none⟩ x).setCell ⟨g, 1, none⟩ y).setCell ⟨g, 2, none⟩ z).setCell ⟨g, 3, none⟩ p) b t cs :=
  (h.put3 hne x y z).elsewhere (p := ⟨g, 3, none⟩) hne p
theorem set4_grown (w : World) (g : Nat) (x y z p : Value) : w.grownBy ((((w.setCell ⟨g, 0, none⟩ x).setCell ⟨g, 1, none⟩ y).setCell ⟨g, 2, none⟩ z).setCell ⟨g, 3, none⟩ p) (some g) :=
  grownBy_tr (grownBy_tr (grownBy_tr (grownBy_set _ _ _ _) (grownBy_set _ _ _ _)) (grownBy_set _ _ _ _)) (grownBy_set _ _ _ _)

set_option maxRecDepth 100000 in
set_option maxHeartbeats 1600000 in
theorem takeT_any (b : Nat) (st : Option (List UInt8)) (w : World) (h : RdO w b st) (hl : lenO st ≤ 1000000) :
    Calls Try.prog 29 #[.pointer (some ⟨b, 0, none⟩)] w (TookT b st w) := by
  have hbl := h.lt
  have hA := At.fresh w 39 #[.string ⟨#[]⟩, .int .i64 0, .slice none 0 0, .slice none 0 0]
  have h0 : RdO (w.alloc (.cells #[.string ⟨#[]⟩, .int .i64 0, .slice none 0 0, .slice none 0 0] 39)) b st := At.alloc h _
  have g0 : w.grownBy (w.alloc (.cells #[.string ⟨#[]⟩, .int .i64 0, .slice none 0 0, .slice none 0 0] 39)) (some b) := World.grownBy_alloc _ _ _
  have hs0 : (w.alloc (.cells #[.string ⟨#[]⟩, .int .i64 0, .slice none 0 0, .slice none 0 0] 39)).heap.size = w.heap.size + 1 := World.size_alloc _ _
  have hne : some w.heap.size ≠ some b := fun e => by injection e; omega
  have l1 := len_S st
  have l2 := len_I (nxt decS st)
  have l3 := len_sound (d := decM 6 decC) (en := fun x => enc x.length ++ (x.map encC).flatten) (fun l x r hx => (decM_sound (good := fun _ => True) (fun _ _ _ h => ⟨decC_sound h, trivial⟩) hx).1) (nxt decI (nxt decS st))
  go_enter Try.func29, Try.ntmps29
  go_wp2_with fail
  refine (oS_any b st _ h0 hl).mono ?_
  rintro e w1 ⟨n, rfl, i1, k1, h1, r1⟩
  have hA1 := At.grown hA r1 hne
  have g1 := grownBy_tr g0 r1
  go_wp2_with fail
  refine (oI_any b _ _ h1 (by omega)).mono ?_
  rintro e w2 ⟨ow, rfl, i2, k2, h2, r2⟩
  have hA2 := At.grown hA1 r2 hne
  have g2 := grownBy_tr g1 r2
  have z2 := (grownBy_tr r1 r2).size
  go_wp2_with fail
  refine (takeLC_any b 6 _ _ h2 (by omega)).mono ?_
  rintro e w3 ⟨cv, C, rfl, hC, nC, k3, h3, oC, r3⟩
  obtain ⟨cA, cc, rfl, hRC, hCA⟩ := RowC.of_own oC rfl (fun c hc => ⟨(hC c hc).1, (hC c hc).2.1, by have := (hC c hc).2.2.1; unfold maxLen; omega, by have := (hC c hc).2.2.2; unfold maxLen; omega⟩)
  have hA3 := At.grown hA2 r3 hne
  have g3 := grownBy_tr g2 r3
  go_wp2_with fail
  refine (takeLE0_any (decE 8) (len_sound fun l x r hx => (decE_sound 8 l x r hx).1) b 4 _ _ h3 (by omega) (fun _ w1 s1 _ hr hl => takeK_any b s1 w1 hr hl)).mono ?_
  rintro e w4 ⟨ev, X, rfl, hX, nX, k4, h4, oX, r4⟩
  have z3 := r3.size
  obtain ⟨eA, ec, rfl, hRX⟩ := rowP_own (q := fun k => w.heap.size + 1 ≤ k) oX rfl hX (fun g hg => by omega) (fun g hg => by have := hg.1; omega)
  have hA4 := At.grown hA3 r4 hne
  have g4 := grownBy_tr g3 r4
  have hG := decT_got k1 k2 k3 k4
  have HG := Lib.hid hG
  have HN := Lib.hid (decT_nxt st)
  obtain ⟨c0, c1, c2, c3⟩ := hA4.four
  have f0 := hA4.unfrozen 0
  have f1 := hA4.unfrozen 1
  have f2 := hA4.unfrozen 2
  have f3 := hA4.unfrozen 3
  have b4 := h4.lt
  clear hA hA1 hA2 hA3 hA4 h0 h1 h2 h3 g0 g1 g2 g3 r1 r2 k1 k2 k3 k4 hG oX oC hX
  go_wp2_with fail
  have hX : treeT ⟨n, ow, cA, C.length, cc, C, eA, X.length, ec, fun j => X.getD j .nil⟩ = ⟨n, ow, C, X.map treeE⟩ := by unfold treeT; simp only; rw [tree_row]
  have s4 := set4_grown w4 w.heap.size (.string ⟨n.toArray⟩) (.int .i64 ow) (.slice cA C.length cc) (.slice eA X.length ec)
  refine bodyPost_ret (v := (⟨n, ow, cA, C.length, cc, C, eA, X.length, ec, fun j => X.getD j .nil⟩ : Tb).val) (by simp [results, Try.results29, go_sem, Tb.val, c0, c1, c2, c3]) rfl ⟨_, rfl, ?_, by rw [hX]; exact HG.out, by rw [HN.out]; exact At.put4 h4 (by omega) _ _ _ _, grown_own g4 s4 (fun g e => by injection e; omega)⟩
  have hk : ∀ k, w.heap.size + 1 ≤ k → k < w4.heap.size → _ = w4.heap[k]? := fun k hk hlk => s4.block k hlk (fun e => by injection e; omega)
  have hT4 : NewT (fun k => w.heap.size + 1 ≤ k) w4 ⟨n, ow, cA, C.length, cc, C, eA, X.length, ec, fun j => X.getD j .nil⟩ := by
    refine ⟨⟨i2, by show n.length ≤ _; unfold maxLen; omega, by show C.length ≤ _; unfold maxLen; omega, by show X.length ≤ _; unfold maxLen; omega, hRC.move hCA r4.size (fun k hk hlk => r4.block k hlk (fun e => by injection e; omega)), hRX.rowE⟩, fun hn => ?_, hRX⟩
    obtain ⟨g, f1, f2, f3⟩ := hCA hn
    exact ⟨g, f1, by omega, Nat.lt_of_lt_of_le f3 r4.size⟩
  exact hT4.keep s4.size hk (fun k hk _ => by omega)
end Go.Proofs.Ytlkeagfmlcbogaa
