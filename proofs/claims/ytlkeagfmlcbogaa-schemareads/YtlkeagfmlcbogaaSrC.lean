/- takeGrant's walk; value.Take by the bytes that are left. -/
import Derived.Test.YtlkeagfmlcbogaaSrB
namespace Go.Proofs.Ytlkeagfmlcbogaa
open Go.RowKit

theorem At.tri2 {w : World} {g : Nat} {t : TypeId} {x y z : Value} (h : At w g t #[x, y, z]) : w.frozen? ⟨g, 0, none⟩ = false ∧ w.frozen? ⟨g, 1, none⟩ = false ∧ w.frozen? ⟨g, 2, none⟩ = false := ⟨h.unfrozen 0, h.unfrozen 1, h.unfrozen 2⟩
theorem At.tri1 {w : World} {g : Nat} {t : TypeId} {x y z : Value} (h : At w g t #[x, y, z]) : w.cell? ⟨g, 0, none⟩ = some x ∧ w.cell? ⟨g, 1, none⟩ = some y ∧ w.cell? ⟨g, 2, none⟩ = some z := ⟨h.cell 0, h.cell 1, h.cell 2⟩

set_option maxRecDepth 100000 in
set_option maxHeartbeats 1600000 in
theorem takeG_any (b : Nat) (st : Option (List UInt8)) (w : World) (h : RdO w b st) (hl : lenO st ≤ 1000000) :
    Calls Try.prog 31 #[.pointer (some ⟨b, 0, none⟩)] w fun e w' => ∃ c : Gr, e = .returned c.val ∧ okG c ∧ Got decG st c ∧ RdO w' b (nxt decG st) ∧ w.grownBy w' (some b) := by
  have hbl := h.lt
  have hA := At.fresh w 48 #[.int .i64 0, .string ⟨#[]⟩, .int .i64 0]
  have h0 : RdO (w.alloc (.cells #[.int .i64 0, .string ⟨#[]⟩, .int .i64 0] 48)) b st := At.alloc h _
  have g0 : w.grownBy (w.alloc (.cells #[.int .i64 0, .string ⟨#[]⟩, .int .i64 0] 48)) (some b) := World.grownBy_alloc _ _ _
  have hne : some w.heap.size ≠ some b := fun e => by injection e; omega
  have l1 := len_I st
  have l2 := len_I (nxt decI st)
  rw [decG_nxt]
  go_enter Try.func31, Try.ntmps31
  go_wp2_with fail
  refine (oI_any b st _ h0 hl).mono ?_
  rintro e w1 ⟨n, rfl, i1, k1, h1, r1⟩
  have hA1 := At.grown hA r1 hne
  have g1 := grownBy_tr g0 r1
  go_wp2_with fail
  refine (oI_any b _ _ h1 (by omega)).mono ?_
  rintro e w2 ⟨f, rfl, i2, k2, h2, r2⟩
  have hA2 := At.grown hA1 r2 hne
  have g2 := grownBy_tr g1 r2
  go_wp2_with fail
  refine (oS_any b _ _ h2 (by omega)).mono ?_
  rintro e w3 ⟨t, rfl, i3, k3, h3, r3⟩
  have hA3 := At.grown hA2 r3 hne
  have g3 := grownBy_tr g2 r3
  have hG := decG_got k1 k2 k3
  have HG := Lib.hid hG
  clear hA hA1 hA2 h0 h1 h2 g0 g1 g2 r1 r2 r3 k1 k2 k3 hG
  obtain ⟨c0, c1, c2⟩ := hA3.tri1
  obtain ⟨f0, f1, f2⟩ := hA3.tri2
  go_wp2_with fail
  refine bodyPost_ret (v := (⟨n, t, f⟩ : Gr).val) (by simp [results, Try.results31, go_sem, Gr.val, c0, c1, c2]) rfl ⟨⟨n, t, f⟩, rfl, ⟨i1, i2, by show t.length ≤ _; omega⟩, HG.out, ?_, grown_put3 g3 _ _ _⟩
  exact At.put3 h3 (by omega) _ _ _

theorem rdI_some {l r : List UInt8} {x : Int} (h : decI l = some (x, r)) : rdI l false = (x, r, false) := by
  rw [decI_of] at h; unfold rdI; split at h
  · rename_i hg; injection h with h; injection h with e1 e2; subst e1; subst e2; rw [hg]
  · cases h
theorem rdI_none {l : List UInt8} {f : Bool} (h : decI l = none) : rdI l f = (0, [], true) := by
  rw [decI_of] at h; unfold rdI; split at h
  · cases h
  · rename_i hg; rw [hg]
theorem rdI_fail : rdI [] true = (0, [], true) := by simp [rdI, grp]
theorem rdS_fail : rdS [] true = ([], [], true) := by simp [rdS, grp]
theorem rdS_some {l r t : List UInt8} (h : decS l = some (t, r)) : rdS l false = (t, r, false) := by
  unfold decS at h; rw [decI_of] at h; unfold rdS
  cases hg : grp 0 0 l with
  | none => rw [hg] at h; cases h
  | some x =>
    obtain ⟨u, k⟩ := x
    rw [hg] at h
    simp only [Option.bind_some] at h ⊢
    split at h
    · cases h
    · rename_i hb; rw [if_neg hb]; injection h with h; injection h with e1 e2; rw [e1, e2]
theorem rdS_none {l : List UInt8} {f : Bool} (h : decS l = none) : rdS l f = ([], [], true) := by
  unfold decS at h; rw [decI_of] at h; unfold rdS
  cases hg : grp 0 0 l with
  | none => rfl
  | some x =>
    obtain ⟨u, k⟩ := x
    rw [hg] at h
    simp only [Option.bind_some] at h ⊢
    split at h
    · rename_i hb; rw [if_pos hb]
    · cases h
/-- What value.Take leaves behind. -/
def leftO (st : Option (List UInt8)) (p : Vl × List UInt8 × Bool) : Prop := p.2.1 = st.getD [] ∧ p.2.2 = st.isNone
theorem takeP_fail : takeP [] true = (⟨0, 0, []⟩, [], true) := by unfold takeP; rw [rdI_fail]; simp only; rw [rdI_fail]; simp only; rw [rdS_fail]; split <;> rfl
theorem takeP_o (st : Option (List UInt8)) : Got decV st (takeP (st.getD []) st.isNone).1 ∧ leftO (nxt decV st) (takeP (st.getD []) st.isNone) := by
  cases st with
  | none => simp only [Option.getD_none, Option.isNone_none, takeP_fail]; exact ⟨got_nil _ _, rfl, rfl⟩
  | some l =>
    have hC : ∀ o, decV l = o → (o = none → leftO none (takeP l false)) → (∀ v r, o = some (v, r) → takeP l false = (v, r, false)) → Got decV (some l) (takeP l false).1 ∧ leftO (nxt decV (some l)) (takeP l false) := by
      intro o ho hn hs
      cases o with
      | none =>
        rw [nxt_none ho]
        refine ⟨fun y r e => ?_, hn rfl⟩
        rw [Option.bind_some, ho] at e
        cases e
      | some x =>
        obtain ⟨v, r⟩ := x
        rw [nxt_some ho, hs v r rfl]
        exact ⟨fun y r' e => by rw [Option.bind_some, ho] at e; injection e with e; injection e, rfl, rfl⟩
    show Got decV (some l) (takeP l false).1 ∧ leftO (nxt decV (some l)) (takeP l false)
    refine hC _ rfl ?_ ?_
    · intro ho
      unfold decV at ho
      unfold takeP
      cases h1 : decI l with
      | none => rw [rdI_none h1]; simp only; rw [rdI_fail]; simp only; rw [rdS_fail]; split <;> exact ⟨rfl, rfl⟩
      | some x1 =>
        obtain ⟨k, q1⟩ := x1
        rw [rdI_some h1]; simp only
        rw [h1, Option.bind_some] at ho; simp only at ho
        cases h2 : decI q1 with
        | none => rw [rdI_none h2]; simp only; rw [rdS_fail]; split <;> exact ⟨rfl, rfl⟩
        | some x2 =>
          obtain ⟨n, q2⟩ := x2
          rw [rdI_some h2]; simp only
          rw [h2, Option.bind_some] at ho; simp only at ho
          cases h3 : decS q2 with
          | none => rw [rdS_none h3]; split <;> exact ⟨rfl, rfl⟩
          | some x3 =>
            obtain ⟨t, q3⟩ := x3
            rw [rdS_some h3]; simp only
            rw [h3, Option.bind_some] at ho; simp only at ho
            split at ho
            · cases ho
            · rename_i hg; rw [if_neg hg]; exact ⟨rfl, rfl⟩
    · intro v r ho
      unfold decV at ho
      simp only [Option.bind_eq_some_iff] at ho
      obtain ⟨⟨k, q1⟩, h1, ⟨n, q2⟩, h2, ⟨t, q3⟩, h3, h4⟩ := ho
      dsimp only at *
      unfold takeP
      rw [rdI_some h1]; simp only
      rw [rdI_some h2]; simp only
      rw [rdS_some h3]; simp only
      split at h4
      · rename_i hg; rw [if_pos hg]; injection h4 with h4; injection h4 with e1 e2; rw [e1, e2]
      · cases h4

theorem takeP_good (l : List UInt8) (f : Bool) : goodV (takeP l f).1 = true := by
  unfold takeP; split
  · rename_i h; exact h
  · rw [goodV_iff]; exact .inl ⟨rfl, rfl, rfl⟩
theorem takeP_ok (l : List UInt8) (f : Bool) : I64 (takeP l f).1.kind ∧ I64 (takeP l f).1.num ∧ (takeP l f).1.text.length ≤ l.length ∧ (takeP l f).2.1.length ≤ l.length := by
  have l1 := rdI_len l f
  have l2 := rdI_len (rdI l f).2.1 (rdI l f).2.2
  have l3 := rdS_len (rdI (rdI l f).2.1 (rdI l f).2.2).2.1 (rdI (rdI l f).2.1 (rdI l f).2.2).2.2
  unfold takeP; split
  · exact ⟨rdI_i64 _ _, rdI_i64 _ _, by show List.length (rdS _ _).1 ≤ _; omega, by show List.length (rdS _ _).2.1 ≤ _; omega⟩
  · exact ⟨by unfold I64; decide, by unfold I64; decide, Nat.zero_le _, Nat.zero_le _⟩
theorem len_V (st : Option (List UInt8)) : lenO (nxt decV st) ≤ lenO st := by
  have h := (takeP_o st).2.1
  have k := (takeP_ok (st.getD []) st.isNone).2.2.2
  unfold lenO; rw [← h]; exact k

theorem oV_any (b : Nat) (st : Option (List UInt8)) (w : World) (h : RdO w b st) (hl : lenO st ≤ 1000000) :
    Calls Try.prog 80 #[.pointer (some ⟨b, 0, none⟩)] w fun e w' => ∃ v : Vl, e = .returned v.val ∧ (I64 v.kind ∧ I64 v.num ∧ v.text.length ≤ lenO st ∧ goodV v = true) ∧ Got decV st v ∧ RdO w' b (nxt decV st) ∧ w.grownBy w' (some b) := by
  have hr := vtake_any b (st.getD []) st.isNone w h (by unfold lenO at hl; omega)
  refine hr.mono ?_
  rintro e w' ⟨rfl, h1, h2⟩
  have k := takeP_ok (st.getD []) st.isNone
  have o := takeP_o st
  refine ⟨_, rfl, ⟨k.1, k.2.1, k.2.2.1, takeP_good _ _⟩, o.1, ?_, h2⟩
  unfold RdO
  rw [← o.2.1, ← o.2.2]; exact h1
end Go.Proofs.Ytlkeagfmlcbogaa
