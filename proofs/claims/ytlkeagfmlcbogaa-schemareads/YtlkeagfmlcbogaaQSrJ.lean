/- schema.Read. -/
import Derived.Test.YtlkeagfmlcbogaaQSrI
namespace Go.Proofs.Ytlkeagfmlcbogaa
open Go.RowKit

theorem rowT_own {w : World} {base n : Nat} {v : Value} {L : List Tb} {p : Nat → Prop} (h : w.ownsRow base 39 4 v n (L.flatMap Tb.cs)) (hn : L.length = n) (hx : ∀ x ∈ L, NewT p w x) :
    ∃ A c, v = .slice A n c ∧ (0 < n → ∃ g, A = some ⟨g, 0, none⟩ ∧ base ≤ g ∧ g < w.heap.size ∧ ∀ j, j < n → CellsT w g (0 + j * 4) (L.getD j default) ∧ NewT p w (L.getD j default)) := by
  obtain ⟨A, c, rfl, hc⟩ := own_cells Tb.cs default (fun _ => rfl) L h hn
  refine ⟨A, c, rfl, fun h0 => ?_⟩
  obtain ⟨g, e1, e2, e3, e4⟩ := hc h0
  refine ⟨g, e1, e2, e3, fun j hj => ⟨?_, hx _ ?_⟩⟩
  · have k := e4 j hj
    rw [Nat.zero_add]
    exact ⟨k 0 (by omega), k 1 (by omega), k 2 (by omega), k 3 (by omega)⟩
  · have hj' : j < L.length := by omega
    simp only [List.getD_eq_getElem?_getD, List.getElem?_eq_getElem hj', Option.getD_some]
    exact List.getElem_mem hj'
theorem rowG_own {w : World} {base n : Nat} {v : Value} {L : List Gr} (h : w.ownsRow base 48 3 v n (L.flatMap Gr.cs)) (hn : L.length = n) (hok : ∀ c ∈ L, okG c) :
    ∃ A c, v = .slice A n c ∧ RowG w A n L ∧ (0 < n → ∃ g, A = some ⟨g, 0, none⟩ ∧ base ≤ g ∧ g < w.heap.size) := by
  obtain ⟨A, c, rfl, hc⟩ := own_cells Gr.cs default (fun _ => rfl) L h hn
  refine ⟨A, c, rfl, ⟨hn, fun c hc => ⟨(hok c hc).1, (hok c hc).2.1, by have := (hok c hc).2.2; unfold maxLen; omega⟩, fun h0 => ?_⟩, fun h0 => ?_⟩
  · obtain ⟨g, e1, e2, e3, e4⟩ := hc h0
    refine ⟨g, 0, e1, e3, fun j hj => ?_⟩
    rw [Nat.zero_add]
    exact ⟨e4 j hj 0 (by omega), e4 j hj 1 (by omega), e4 j hj 2 (by omega)⟩
  · obtain ⟨g, e1, e2, e3, e4⟩ := hc h0
    exact ⟨g, e1, e2, e3⟩

def treeS (s : Sc) : Sd := ⟨s.ver, (List.range s.tn).map fun j => treeT (s.tab j), s.grants⟩
theorem decSd_end {l : List UInt8} {v : Int} {T : List Td} {G : List Gr} (g1 : Got decI (some l) v) (g2 : Got (decM 12 decT) (nxt decI (some l)) T) (g3 : Got (decM 64 decG) (nxt (decM 12 decT) (nxt decI (some l))) G) :
    (nxt (decM 64 decG) (nxt (decM 12 decT) (nxt decI (some l))) = some [] → decSd l = some (⟨v, T, G⟩, [])) ∧ (nxt (decM 64 decG) (nxt (decM 12 decT) (nxt decI (some l))) ≠ some [] → ∀ t, decSd l ≠ some (t, [])) := by
  unfold decSd
  cases h1 : decI l with
  | none => rw [nxt_none h1]; exact ⟨fun h => (by cases h), fun _ t h => (by cases h)⟩
  | some x1 =>
    obtain ⟨v', q1⟩ := x1
    rw [nxt_some h1] at g2 g3 ⊢
    rw [got_some g1 h1, Option.bind_some]
    simp only
    cases h2 : decM 12 decT q1 with
    | none => rw [nxt_none h2]; exact ⟨fun h => (by cases h), fun _ t h => (by cases h)⟩
    | some x2 =>
      obtain ⟨T', q2⟩ := x2
      rw [nxt_some h2] at g3 ⊢
      rw [got_some g2 h2, Option.bind_some]
      simp only
      cases h3 : decM 64 decG q2 with
      | none => rw [nxt_none h3]; exact ⟨fun h => (by cases h), fun _ t h => (by cases h)⟩
      | some x3 =>
        obtain ⟨G', q3⟩ := x3
        rw [nxt_some h3, got_some g3 h3, Option.bind_some]
        simp only
        exact ⟨fun h => by injection h with h; rw [h], fun h t e => h (by injection e with e; injection e with _ e; rw [e])⟩
theorem tree_rowT (L : List Tb) : ((List.range L.length).map fun j => treeT (L.getD j default)) = L.map treeT := by
  apply List.ext_getElem
  · simp
  · intro i h1 h2
    simp at h1 h2 ⊢
    rw [List.getElem?_eq_getElem h2]; rfl
theorem set3_grown (w : World) (g : Nat) (x y z : Value) : w.grownBy (((w.setCell ⟨g, 0, none⟩ x).setCell ⟨g, 1, none⟩ y).setCell ⟨g, 2, none⟩ z) (some g) :=
  grownBy_tr (grownBy_tr (grownBy_set _ _ _ _) (grownBy_set _ _ _ _)) (grownBy_set _ _ _ _)

set_option maxRecDepth 100000 in
set_option maxHeartbeats 1600000 in
theorem sread_any (l : List UInt8) (w : World) (hl : l.length ≤ 1000000) :
    Calls Try.prog 9 #[.string ⟨l.toArray⟩] w fun e w' => Below w.heap.size w w' ∧
      ((∃ s : Sc, e = .returned (.tuple #[s.val, .int .i64 0]) ∧ InS w' s ∧ decSd l = some (treeS s, [])) ∨ (e = .returned (.tuple #[.agg #[.int .i64 0, .slice none 0 0, .slice none 0 0], .int .i64 4]) ∧ ∀ t, decSd l ≠ some (t, []))) := by
  have hA := At.fresh w 25 #[.int .i64 0, .slice none 0 0, .slice none 0 0]
  have g0 : w.grownBy (w.alloc (.cells #[.int .i64 0, .slice none 0 0, .slice none 0 0] 25)) none := World.grownBy_alloc _ _ _
  have hs0 : (w.alloc (.cells #[.int .i64 0, .slice none 0 0, .slice none 0 0] 25)).heap.size = w.heap.size + 1 := World.size_alloc _ _
  go_enter Try.func9, Try.ntmps9
  go_wp2_with fail
  refine (open_any l _).mono ?_
  rw [hs0]
  rintro e w1 ⟨rfl, h1, r1⟩
  have hA1 := At.grown hA r1 (fun e => by cases e)
  have g1 := grownBy_tr g0 r1
  have hR1 : RdO w1 (w.heap.size + 1) (some l) := h1
  have hz1 : w.heap.size + 1 < w1.heap.size := At.lt h1
  have hne : some w.heap.size ≠ some (w.heap.size + 1) := fun e => by injection e; omega
  have L0 : lenO (some l) ≤ 1000000 := hl
  have L1 := len_I (some l)
  have L2 := len_sound (d := decM 12 decT) (en := fun x => enc x.length ++ (x.map encT).flatten) (fun l x r hx => (decM_sound (good := fun _ => True) (fun _ _ _ h => ⟨(decT_sound h).1, trivial⟩) hx).1) (nxt decI (some l))
  go_wp2_with fail
  refine (oI_any _ _ _ hR1 L0).mono ?_
  rintro e w2 ⟨ver, rfl, i2, k2, h2, r2⟩
  have hA2 := At.grown hA1 r2 hne
  go_wp2_with fail
  refine (takeLT_any _ 12 _ _ h2 (by omega)).mono ?_
  rintro e w3 ⟨tv, T, rfl, hT, nT, k3, h3, oT, r3⟩
  have hA3 := At.grown hA2 r3 hne
  go_wp2_with fail
  refine (takeLG_any _ 64 _ _ h3 (by omega)).mono ?_
  rintro e w4 ⟨gv, G, rfl, hG, nG, k4, h4, oG, r4⟩
  have hA4 := At.grown hA3 r4 hne
  obtain ⟨tA, tc, rfl, hRT⟩ := rowT_own oT rfl hT
  obtain ⟨gA, gc, rfl, hRG, hGA⟩ := rowG_own oG rfl hG
  have hEnd := end_any (w.heap.size + 1) _ _ _ (At.alloc h4 (.cells #[.int .i64 ver, .slice tA T.length tc, .slice gA G.length gc] 25))
  have HEnd := Lib.hid hEnd
  have hA5 := At.alloc hA4 (.cells #[.int .i64 ver, .slice tA T.length tc, .slice gA G.length gc] 25)
  have hE5 := At.fresh w4 25 #[.int .i64 ver, .slice tA T.length tc, .slice gA G.length gc]
  obtain ⟨c0, c1, c2⟩ := hA5.tri1
  obtain ⟨f0, f1, f2⟩ := hA5.tri2
  obtain ⟨d0, d1, d2⟩ := hE5.tri1
  have hS := decSd_end k2 k3 k4
  have B0 := (((Below.refl w.heap.size w).grown g1 (Nat.le_refl _) (fun k e => by cases e)).grown r2 g1.size (fun k e => by injection e; omega)).grown r3 (Nat.le_trans g1.size r2.size) (fun k e => by injection e; omega)
  have B1 := B0.grown r4 B0.size (fun k e => by injection e; omega)
  have B2 := B1.alloc B1.size (.cells #[.int .i64 ver, .slice tA T.length tc, .slice gA G.length gc] 25)
  have z1 := r1.size
  clear hA hA1 hA2 hA3 hR1 h1 h2 h3 hEnd oT oG hT
  by_cases he : nxt (decM 64 decG) (nxt (decM 12 decT) (nxt decI (some l))) = some []
  · have hz : endOf ((nxt (decM 64 decG) (nxt (decM 12 decT) (nxt decI (some l)))).getD []) (nxt (decM 64 decG) (nxt (decM 12 decT) (nxt decI (some l)))).isNone = 0 := by rw [he]; simp [endOf]
    go_wp2_with fail
    refine HEnd.out.mono ?_
    rintro e w5 ⟨rfl, rfl⟩
    rw [hz]
    go_wp2_with fail
    have sg := set3_grown (w4.alloc (.cells #[.int .i64 ver, .slice tA T.length tc, .slice gA G.length gc] 25)) w.heap.size (.int .i64 ver) (.slice tA T.length tc) (.slice gA G.length gc)
    have s5 := World.grownBy_alloc w4 (.cells #[.int .i64 ver, .slice tA T.length tc, .slice gA G.length gc] 25) none
    have z2 := r2.size
    have z3 := r3.size
    have z4 := r4.size
    have z5 := s5.size
    have z6 := sg.size
    have kp4 : ∀ k, w.heap.size + 1 < k → k < w4.heap.size → _ = w4.heap[k]? := fun k hk hlk => (sg.block k (by omega) (fun e => by injection e; omega)).trans (s5.block k hlk (fun e => by cases e))
    have kp3 : ∀ k, w.heap.size + 1 < k → k < w3.heap.size → _ = w3.heap[k]? := fun k hk hlk => (kp4 k hk (by omega)).trans (r4.block k hlk (fun e => by injection e; omega))
    refine bodyPost_ret (v := .tuple #[(⟨ver, tA, T.length, tc, fun j => T.getD j default, gA, G.length, gc, G⟩ : Sc).val, .int .i64 0]) (by simp [results, Try.results9, go_sem, Sc.val, c0, c1, c2]) rfl ⟨?_, .inl ⟨_, rfl, ?_, by rw [treeS]; simp only; rw [tree_rowT]; exact hS.1 he⟩⟩
    · exact B2.grown sg B2.size (fun k e => by injection e; omega)
    · refine ⟨i2, by show T.length ≤ _; unfold maxLen; omega, by show G.length ≤ _; have := len_sound (d := decM 12 decT) (en := fun x => enc x.length ++ (x.map encT).flatten) (fun l x r hx => (decM_sound (good := fun _ => True) (fun _ _ _ h => ⟨(decT_sound h).1, trivial⟩) hx).1) (nxt decI (some l)); unfold maxLen; omega, fun hn => ?_, ⟨rfl, hRG.2.1, fun hn => ?_⟩⟩
      · obtain ⟨g, e1, e2, e3, e4⟩ := hRT hn
        refine ⟨g, 0, e1, by omega, fun j hj => ⟨(e4 j hj).1.keep fun i => World.cell?_of_block (a := ⟨g, i, none⟩) (kp3 g (by omega) e3), ((e4 j hj).2.keep (by omega) (fun k hk hlk => kp3 k (by have := hk.1; omega) hlk) (q := fun _ => True) (fun _ _ _ => trivial)).inT⟩⟩
      · obtain ⟨b, off, e1, e2, e3⟩ := hRG.2.2 hn
        obtain ⟨g, f1, f2, f3⟩ := hGA hn
        rw [e1] at f1
        have hbg : b = g := by injection f1 with f1; injection f1
        subst hbg
        exact ⟨b, off, e1, by omega, fun j hj => (e3 j hj).keep fun i => World.cell?_of_block (a := ⟨b, i, none⟩) (kp4 b (by omega) f3)⟩
  · have hz : endOf ((nxt (decM 64 decG) (nxt (decM 12 decT) (nxt decI (some l)))).getD []) (nxt (decM 64 decG) (nxt (decM 12 decT) (nxt decI (some l)))).isNone = 4 := by
      generalize nxt (decM 64 decG) (nxt (decM 12 decT) (nxt decI (some l))) = s at *
      cases s with
      | none => simp [endOf]
      | some r => cases r with
        | nil => exact absurd rfl he
        | cons a r => simp [endOf]
    go_wp2_with fail
    refine HEnd.out.mono ?_
    rintro e w5 ⟨rfl, rfl⟩
    rw [hz]
    go_wp2_with fail
    refine bodyPost_ret (v := .tuple #[.agg #[.int .i64 0, .slice none 0 0, .slice none 0 0], .int .i64 4]) (by simp [results, Try.results9, go_sem, c0, c1, c2]) rfl ⟨?_, .inr ⟨rfl, hS.2 he⟩⟩
    exact B2.grown (set3_grown _ _ _ _ _) B2.size (fun k e => by injection e; omega)
end Go.Proofs.Ytlkeagfmlcbogaa
