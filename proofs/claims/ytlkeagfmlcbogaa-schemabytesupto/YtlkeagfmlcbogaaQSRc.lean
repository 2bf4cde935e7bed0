/- takeTable. -/
/- takeList for tables. -/
/- schema.Read. -/
import Derived.Test.YtlkeagfmlcbogaaQSRb
import Derived.Test.YtlkeagfmlcbogaaQSCa
namespace Go.Proofs.Ytlkeagfmlcbogaa
open Go.RowKit

/-- A table in memory whose rows lie in chosen blocks. -/
structure NewT (p : Nat → Prop) (w : World) (t : Tb) : Prop where
  inT : InT w t
  colsAt : 0 < t.cn → ∃ g, t.cA = some ⟨g, 0, none⟩ ∧ p g ∧ g < w.heap.size
  chkAt : RowP p w t.eA t.en t.chk
theorem RowP.keep2 {p q : Nat → Prop} {w w' : World} {A : Option Addr} {n : Nat} {arg : Nat → Ex} (h : RowP p w A n arg) (hs : w.heap.size ≤ w'.heap.size) (hk : ∀ b, p b → b < w.heap.size → w'.heap[b]? = w.heap[b]?) (hq : ∀ b, p b → b < w.heap.size → q b) : RowP q w' A n arg := fun hn => by
  obtain ⟨b, off, e1, e0, e2, e3⟩ := h hn
  exact ⟨b, off, e1, hq b e0 e2, Nat.lt_of_lt_of_le e2 hs, fun j hj => ⟨(e3 j hj).1.keep fun i => World.cell?_of_block (a := ⟨b, i, none⟩) (hk b e0 e2), (e3 j hj).2.keep2 hs hk hq⟩⟩
theorem NewT.keep {p q : Nat → Prop} {w w' : World} {t : Tb} (h : NewT p w t) (hs : w.heap.size ≤ w'.heap.size) (hk : ∀ b, p b → b < w.heap.size → w'.heap[b]? = w.heap[b]?) (hq : ∀ b, p b → b < w.heap.size → q b) : NewT q w' t where
  inT := ⟨h.inT.owner, h.inT.name, h.inT.cmax, h.inT.emax, ⟨h.inT.cols.1, h.inT.cols.2.1, fun hn => by
    obtain ⟨b, off, e1, e2, e3⟩ := h.inT.cols.2.2 hn
    obtain ⟨g, f1, f2, f3⟩ := h.colsAt hn
    rw [e1] at f1
    have hbg : b = g := by injection f1 with f1; injection f1
    subst hbg
    exact ⟨b, off, e1, Nat.lt_of_lt_of_le e2 hs, fun j hj => (e3 j hj).keep fun i => World.cell?_of_block (a := ⟨b, i, none⟩) (hk b f2 f3)⟩⟩, (h.chkAt.keep2 hs hk hq).rowE⟩
  colsAt := fun hn => by
    obtain ⟨g, f1, f2, f3⟩ := h.colsAt hn
    exact ⟨g, f1, hq g f2 f3, Nat.lt_of_lt_of_le f3 hs⟩
  chkAt := h.chkAt.keep2 hs hk hq
/-- The table, wherever it lies. -/
def treeT (t : Tb) : Td := ⟨t.name, t.owner, t.cols, (List.range t.en).map fun j => treeE (t.chk j)⟩
def TookT (b : Nat) (st : Option (List UInt8)) (w : World) (e : Ending) (w' : World) : Prop :=
  ∃ t : Tb, e = .returned t.val ∧ NewT (fun k => w.heap.size ≤ k) w' t ∧ Got decT st (treeT t) ∧ RdO w' b (nxt decT st) ∧ w.grownBy w' (some b)

theorem decT_nxt (st : Option (List UInt8)) : nxt decT st = nxt (decM 4 (decE 8)) (nxt (decM 6 decC) (nxt decI (nxt decS st))) := by
  cases st with
  | none => rfl
  | some l =>
    have hC : ∀ o : Option (Td × List UInt8), decT l = o → nxt decT (some l) = o.map (·.2) := fun o h => by unfold nxt; rw [Option.bind_some, h]
    unfold decT at hC
    cases h1 : decS l with
    | none => rw [nxt_none h1]; exact hC none (by rw [h1]; rfl)
    | some x1 =>
      obtain ⟨n, q1⟩ := x1
      rw [nxt_some h1]
      cases h2 : decI q1 with
      | none => rw [nxt_none h2]; exact hC none (by rw [h1, Option.bind_some]; simp only; rw [h2]; rfl)
      | some x2 =>
        obtain ⟨f, q2⟩ := x2
        rw [nxt_some h2]
        cases h3 : decM 6 decC q2 with
        | none => rw [nxt_none h3]; exact hC none (by rw [h1, Option.bind_some]; simp only; rw [h2, Option.bind_some]; simp only; rw [h3]; rfl)
        | some x3 =>
          obtain ⟨k, q3⟩ := x3
          rw [nxt_some h3]
          cases h4 : decM 4 (decE 8) q3 with
          | none => rw [nxt_none h4]; exact hC none (by rw [h1, Option.bind_some]; simp only; rw [h2, Option.bind_some]; simp only; rw [h3, Option.bind_some]; simp only; rw [h4]; rfl)
          | some x4 =>
            obtain ⟨a, q4⟩ := x4
            rw [nxt_some h4]
            exact hC (some (⟨n, f, k, a⟩, q4)) (by rw [h1, Option.bind_some]; simp only; rw [h2, Option.bind_some]; simp only; rw [h3, Option.bind_some]; simp only; rw [h4]; rfl)
theorem decT_got {st : Option (List UInt8)} {n : List UInt8} {f : Int} {k : List Co} {a : List Et} (g1 : Got decS st n) (g2 : Got decI (nxt decS st) f) (g3 : Got (decM 6 decC) (nxt decI (nxt decS st)) k) (g4 : Got (decM 4 (decE 8)) (nxt (decM 6 decC) (nxt decI (nxt decS st))) a) : Got decT st ⟨n, f, k, a⟩ := by
  cases st with
  | none => exact got_nil _ _
  | some l =>
    intro c r h
    rw [Option.bind_some] at h
    unfold decT at h
    simp only [Option.bind_eq_some_iff] at h
    obtain ⟨⟨n', q1⟩, h1, ⟨f', q2⟩, h2, ⟨k', q3⟩, h3, ⟨a', q4⟩, h4, h7⟩ := h
    injection h7 with h7; injection h7 with e1 e2
    subst e1
    dsimp only at *
    rw [nxt_some h1] at g2 g3 g4
    rw [nxt_some h2] at g3 g4
    rw [nxt_some h3] at g4
    rw [got_some g1 h1, got_some g2 h2, got_some g3 h3, got_some g4 h4]
theorem At.put4 {w : World} {g b : Nat} {t : TypeId} {cs : Array Value} (h : At w b t cs) (hne : b ≠ g) (x y z p : Value) : At ((((w.setCell ⟨g, 0, none⟩ x).setCell ⟨g, 1, none⟩ y).setCell ⟨g, 2, none⟩ z).setCell ⟨g, 3, none⟩ p) b t cs :=
  (h.put3 hne x y z).elsewhere (p := ⟨g, 3, none⟩) hne p
theorem set4_grown (w : World) (g : Nat) (x y z p : Value) : w.grownBy ((((w.setCell ⟨g, 0, none⟩ x).setCell ⟨g, 1, none⟩ y).setCell ⟨g, 2, none⟩ z).setCell ⟨g, 3, none⟩ p) (some g) :=
  grownBy_tr (grownBy_tr (grownBy_tr (grownBy_set _ _ _ _) (grownBy_set _ _ _ _)) (grownBy_set _ _ _ _)) (grownBy_set _ _ _ _)

set_option maxRecDepth 100000 in
set_option maxHeartbeats 1600000 in
theorem takeT_any (b : Nat) (st : Option (List UInt8)) (w : World) (h : RdO w b st) (hl : lenO st ≤ 20000000) :
    Calls Try.prog 29 #[.pointer (some ⟨b, 0, none⟩)] w (TookT b st w) := by
  have hbl := h.lt
  have hA := At.fresh w 39 #[.string ⟨#[]⟩, .int .i64 0, .slice none 0 0, .slice none 0 0]
  have h0 : RdO (w.alloc (.cells #[.string ⟨#[]⟩, .int .i64 0, .slice none 0 0, .slice none 0 0] 39)) b st := At.alloc h _
  have g0 : w.grownBy (w.alloc (.cells #[.string ⟨#[]⟩, .int .i64 0, .slice none 0 0, .slice none 0 0] 39)) (some b) := World.grownBy_alloc _ _ _
  have hs0 : (w.alloc (.cells #[.string ⟨#[]⟩, .int .i64 0, .slice none 0 0, .slice none 0 0] 39)).heap.size = w.heap.size + 1 := World.size_alloc _ _
  have hne : some w.heap.size ≠ some b := fun e => by injection e; omega
  have l1 := len_S st
  have l2 := len_I (nxt decS st)
  have l3 := len_sound (d := decM 6 decC) (en := fun x => enc x.length ++ (x.map encC).flatten) (fun l x r hx => (decM_sound (good := fun _ => True) (fun _ _ _ h => ⟨decC_sound h, trivial⟩) hx).1) (nxt decI (nxt decS st))
  go_enter Try.func29, Try.ntmps29
  go_wp2_with fail
  refine (oS_any b st _ h0 hl).mono ?_
  rintro e w1 ⟨n, rfl, i1, k1, h1, r1⟩
  have hA1 := At.grown hA r1 hne
  have g1 := grownBy_tr g0 r1
  go_wp2_with fail
  refine (oI_any b _ _ h1 (by omega)).mono ?_
  rintro e w2 ⟨ow, rfl, i2, k2, h2, r2⟩
  have hA2 := At.grown hA1 r2 hne
  have g2 := grownBy_tr g1 r2
  have z2 := (grownBy_tr r1 r2).size
  go_wp2_with fail
  refine (takeLC_any b 6 _ _ h2 (by omega)).mono ?_
  rintro e w3 ⟨cv, C, rfl, hC, nC, k3, h3, oC, r3⟩
  obtain ⟨cA, cc, rfl, hRC, hCA⟩ := RowC.of_own oC rfl (fun c hc => ⟨(hC c hc).1, (hC c hc).2.1, by have := (hC c hc).2.2.1; unfold maxLen; omega, by have := (hC c hc).2.2.2; unfold maxLen; omega⟩)
  have hA3 := At.grown hA2 r3 hne
  have g3 := grownBy_tr g2 r3
  go_wp2_with fail
  refine (takeLE0_any (decE 8) (len_sound fun l x r hx => (decE_sound 8 l x r hx).1) b 4 _ _ h3 (by omega) (fun _ w1 s1 _ hr hl => takeK_any b s1 w1 hr hl)).mono ?_
  rintro e w4 ⟨ev, X, rfl, hX, nX, k4, h4, oX, r4⟩
  have z3 := r3.size
  obtain ⟨eA, ec, rfl, hRX⟩ := rowP_own (q := fun k => w.heap.size + 1 ≤ k) oX rfl hX (fun g hg => by omega) (fun g hg => by have := hg.1; omega)
  have hA4 := At.grown hA3 r4 hne
  have g4 := grownBy_tr g3 r4
  have hG := decT_got k1 k2 k3 k4
  have HG := Lib.hid hG
  have HN := Lib.hid (decT_nxt st)
  obtain ⟨c0, c1, c2, c3⟩ := hA4.four
  have f0 := hA4.unfrozen 0
  have f1 := hA4.unfrozen 1
  have f2 := hA4.unfrozen 2
  have f3 := hA4.unfrozen 3
  have b4 := h4.lt
  clear hA hA1 hA2 hA3 hA4 h0 h1 h2 h3 g0 g1 g2 g3 r1 r2 k1 k2 k3 k4 hG oX oC hX
  go_wp2_with fail
  have hX : treeT ⟨n, ow, cA, C.length, cc, C, eA, X.length, ec, fun j => X.getD j .nil⟩ = ⟨n, ow, C, X.map treeE⟩ := by unfold treeT; simp only; rw [tree_row]
  have s4 := set4_grown w4 w.heap.size (.string ⟨n.toArray⟩) (.int .i64 ow) (.slice cA C.length cc) (.slice eA X.length ec)
  refine bodyPost_ret (v := (⟨n, ow, cA, C.length, cc, C, eA, X.length, ec, fun j => X.getD j .nil⟩ : Tb).val) (by simp [results, Try.results29, go_sem, Tb.val, c0, c1, c2, c3]) rfl ⟨_, rfl, ?_, by rw [hX]; exact HG.out, by rw [HN.out]; exact At.put4 h4 (by omega) _ _ _ _, grown_own g4 s4 (fun g e => by injection e; omega)⟩
  have hk : ∀ k, w.heap.size + 1 ≤ k → k < w4.heap.size → _ = w4.heap[k]? := fun k hk hlk => s4.block k hlk (fun e => by injection e; omega)
  have hT4 : NewT (fun k => w.heap.size + 1 ≤ k) w4 ⟨n, ow, cA, C.length, cc, C, eA, X.length, ec, fun j => X.getD j .nil⟩ := by
    refine ⟨⟨i2, by show n.length ≤ _; unfold maxLen; omega, by show C.length ≤ _; unfold maxLen; omega, by show X.length ≤ _; unfold maxLen; omega, hRC.move hCA r4.size (fun k hk hlk => r4.block k hlk (fun e => by injection e; omega)), hRX.rowE⟩, fun hn => ?_, hRX⟩
    obtain ⟨g, f1, f2, f3⟩ := hCA hn
    exact ⟨g, f1, by omega, Nat.lt_of_lt_of_le f3 r4.size⟩
  exact hT4.keep s4.size hk (fun k hk _ => by omega)
end Go.Proofs.Ytlkeagfmlcbogaa

namespace Go.Proofs.Ytlkeagfmlcbogaa
open Go.RowKit

theorem len_T (st : Option (List UInt8)) : lenO (nxt decT st) ≤ lenO st := len_sound (fun _ _ _ hx => (decT_sound hx).1) st
theorem info_table : (Try.prog.info? 39).map (fun i => (i.zero, i.size, i.bytes)) = some (some (.agg #[.string ⟨#[]⟩, .int .i64 0, .slice none 0 0, .slice none 0 0]), 4, 72) := by kernel_rfl

set_option maxRecDepth 100000 in
set_option maxHeartbeats 3200000 in
theorem takeLT_any (b : Nat) (bound : Int) (st : Option (List UInt8)) (w : World) (h : RdO w b st) (hl : lenO st ≤ 20000000) :
    Calls Try.prog 28 #[.pointer (some ⟨b, 0, none⟩), .int .i64 bound, .func (.func 29) #[] #[]] w fun e w' => ∃ v, ∃ L : List Tb, e = .returned v ∧ (∀ x ∈ L, NewT (fun k => w.heap.size ≤ k ∧ v.ownBlock ≠ some k) w' x) ∧ L.length ≤ lenO st ∧ Got (decM bound decT) st (L.map treeT) ∧ RdO w' b (nxt (decM bound decT) st) ∧ w'.ownsRow w.heap.size 39 4 v L.length (L.flatMap Tb.cs) ∧ w.grownBy w' (some b) := by
  have hbl := h.lt
  go_enter Try.func28, Try.ntmps28
  go_wp2_with fail
  refine (oM_any b bound st _ h hl).mono ?_
  rintro e w1 ⟨n, rfl, hn, hz, kN, h1, g1⟩
  have lN := len_N bound st
  go_wp2_with fail
  go_loopw [7, 11] (fun v i wr => ∃ L : List Tb, ∃ sK : Option (List UInt8), L.length ≤ n ∧ i = .int .i64 (L.length : Int) ∧ (∀ x ∈ L, NewT (fun k => w.heap.size ≤ k ∧ v.ownBlock ≠ some k) wr x) ∧ Inv decT (nxt (decN bound) st) (L.map treeT) sK ∧ lenO sK ≤ lenO st ∧ RdO wr b sK ∧ wr.ownsRow w.heap.size 39 4 v L.length (L.flatMap Tb.cs) ∧ w.grownBy wr (some b)) (fun _ i _ => n - (intOf i).toNat)
  case atStart => exact ⟨[], nxt (decN bound) st, by simp, rfl, by simp, inv_zero _ _, lN, h1, World.ownsRow_nil _ _ _ 4, g1⟩
  case round =>
    clear h1 g1
    obtain ⟨L, sK, hLn, rfl, hok, hI, hlK, hR, hown, hg⟩ := hrel
    by_cases hlt : L.length < n
    · go_wp2_with fail
      refine (takeT_any b sK _ hR (by omega)).mono ?_
      rintro e w2 ⟨x, rfl, hx, kc, h2, g2⟩
      have hown2 := own_keep2 hown g2 (by omega)
      have hg2 := grownBy_tr hg g2
      have hI2 := inv_succ hI kc
      have hlC := len_T sK
      have hapart : ∀ g, u7.ownBlock = some g → w.heap.size ≤ g := fun g hg => (World.ownsRow.lt hown2 g hg).1
      have hrow : ∀ g, u7.ownBlock = some g → g < wr.heap.size := fun g hg => (World.ownsRow.lt hown g hg).2
      have hle := hg2.size
      have hle1 := hg.size
      have hok2 : ∀ y ∈ L ++ [x], NewT (fun k => w.heap.size ≤ k ∧ u7.ownBlock ≠ some k) w2 y := by
        intro y hy
        rcases List.mem_append.1 hy with k | k
        · exact (hok y k).keep g2.size (fun c hc hlc => g2.block c hlc (fun e => by injection e; have := hc.1; omega)) (fun c hc _ => hc)
        · rw [List.mem_singleton] at k; subst k
          exact hx.keep (Nat.le_refl _) (fun _ _ _ => rfl) (fun c hc _ => ⟨by omega, fun e => by have := hrow c e; omega⟩)
      have HI2 := Lib.hid hI2
      have HK2 := Lib.hid hok2
      clear hown hg g2 hI hI2 kc hR hok hok2
      obtain ⟨nm, ow, cA, cn, cc, cols, eA, en, ec, chk⟩ := x
      have hvx : (⟨nm, ow, cA, cn, cc, cols, eA, en, ec, chk⟩ : Tb).val = .agg #[.string ⟨nm.toArray⟩, .int .i64 ow, .slice cA cn cc, .slice eA en ec] := rfl
      rw [hvx]
      clear hvx hx
      go_wp2_with (at_builtin; (refine wp_append1 rfl (.tmp 13) (.tmp 17) 22 rfl 39 4 72 _ Try.underlying22 info_table rfl (by omega) hown2 #[.string ⟨nm.toArray⟩, .int .i64 ow, .slice cA cn cc, .slice eA en ec] 39 rfl rfl rfl rfl ?c1 (by omega) (by omega) hle ?_))
      case c1 => exact ⟨rfl, rfl, rfl, rfl⟩
      intro g cap w5 ho5 hg5 hlt5
      have h5 : RdO w5 b (nxt decT sK) := At.grown h2 hg5.grown (fun e => by have := hapart b e.symm; omega)
      have hg6 := grown_own hg2 hg5.grown hapart
      have HO5 := Lib.hid ho5
      have hok5 : ∀ y ∈ L ++ [(⟨nm, ow, cA, cn, cc, cols, eA, en, ec, chk⟩ : Tb)], NewT (fun k => w.heap.size ≤ k ∧ (Value.slice (some ⟨g, 0, none⟩) (L.length + 1) cap).ownBlock ≠ some k) w5 y := fun y hy =>
        (HK2.out y hy).keep hg5.grown.size (fun c hc hlc => hg5.grown.block c hlc (fun e => hc.2 e.symm)) (fun c hc hlc => ⟨hc.1, fun e => by
          rcases hg5.lies c e with q | q
          · exact hc.2 q
          · omega⟩)
      have HK5 := Lib.hid hok5
      clear ho5 hg5 hg2 hown2 h2 hapart hok5
      go_wp2_with fail
      refine ⟨⟨L ++ [(⟨nm, ow, cA, cn, cc, cols, eA, en, ec, chk⟩ : Tb)], nxt decT sK, by simp; omega, by rw [List.length_append]; go_num, HK5.out, by rw [List.map_append]; exact HI2.out, by omega, h5, ?_, hg6⟩, by simp [intOf]; omega⟩
      rw [List.flatMap_append, List.length_append]; exact HO5.out
    · obtain hn2 : L.length = n := by omega
      have hE := inv_end kN hI (by rw [List.length_map]; exact hn2)
      go_wp2_with fail
      go_ret
      exact ⟨_, L, rfl, hok, by omega, hE.1, by rw [hE.2]; exact hR, hown, hg⟩
end Go.Proofs.Ytlkeagfmlcbogaa

namespace Go.Proofs.Ytlkeagfmlcbogaa
open Go.RowKit

theorem rowT_own {w : World} {base n : Nat} {v : Value} {L : List Tb} {p : Nat → Prop} (h : w.ownsRow base 39 4 v n (L.flatMap Tb.cs)) (hn : L.length = n) (hx : ∀ x ∈ L, NewT p w x) :
    ∃ A c, v = .slice A n c ∧ (0 < n → ∃ g, A = some ⟨g, 0, none⟩ ∧ base ≤ g ∧ g < w.heap.size ∧ ∀ j, j < n → CellsT w g (0 + j * 4) (L.getD j default) ∧ NewT p w (L.getD j default)) := by
  obtain ⟨A, c, rfl, hc⟩ := own_cells Tb.cs default (fun _ => rfl) L h hn
  refine ⟨A, c, rfl, fun h0 => ?_⟩
  obtain ⟨g, e1, e2, e3, e4⟩ := hc h0
  refine ⟨g, e1, e2, e3, fun j hj => ⟨?_, hx _ ?_⟩⟩
  · have k := e4 j hj
    rw [Nat.zero_add]
    exact ⟨k 0 (by omega), k 1 (by omega), k 2 (by omega), k 3 (by omega)⟩
  · have hj' : j < L.length := by omega
    simp only [List.getD_eq_getElem?_getD, List.getElem?_eq_getElem hj', Option.getD_some]
    exact List.getElem_mem hj'
theorem rowG_own {w : World} {base n : Nat} {v : Value} {L : List Gr} (h : w.ownsRow base 48 3 v n (L.flatMap Gr.cs)) (hn : L.length = n) (hok : ∀ c ∈ L, okG c) :
    ∃ A c, v = .slice A n c ∧ RowG w A n L ∧ (0 < n → ∃ g, A = some ⟨g, 0, none⟩ ∧ base ≤ g ∧ g < w.heap.size) := by
  obtain ⟨A, c, rfl, hc⟩ := own_cells Gr.cs default (fun _ => rfl) L h hn
  refine ⟨A, c, rfl, ⟨hn, fun c hc => ⟨(hok c hc).1, (hok c hc).2.1, by have := (hok c hc).2.2; unfold maxLen; omega⟩, fun h0 => ?_⟩, fun h0 => ?_⟩
  · obtain ⟨g, e1, e2, e3, e4⟩ := hc h0
    refine ⟨g, 0, e1, e3, fun j hj => ?_⟩
    rw [Nat.zero_add]
    exact ⟨e4 j hj 0 (by omega), e4 j hj 1 (by omega), e4 j hj 2 (by omega)⟩
  · obtain ⟨g, e1, e2, e3, e4⟩ := hc h0
    exact ⟨g, e1, e2, e3⟩

def treeS (s : Sc) : Sd := ⟨s.ver, (List.range s.tn).map fun j => treeT (s.tab j), s.grants⟩
theorem decSd_end {l : List UInt8} {v : Int} {T : List Td} {G : List Gr} (g1 : Got decI (some l) v) (g2 : Got (decM 12 decT) (nxt decI (some l)) T) (g3 : Got (decM 64 decG) (nxt (decM 12 decT) (nxt decI (some l))) G) :
    (nxt (decM 64 decG) (nxt (decM 12 decT) (nxt decI (some l))) = some [] → decSd l = some (⟨v, T, G⟩, [])) ∧ (nxt (decM 64 decG) (nxt (decM 12 decT) (nxt decI (some l))) ≠ some [] → ∀ t, decSd l ≠ some (t, [])) := by
  unfold decSd
  cases h1 : decI l with
  | none => rw [nxt_none h1]; exact ⟨fun h => (by cases h), fun _ t h => (by cases h)⟩
  | some x1 =>
    obtain ⟨v', q1⟩ := x1
    rw [nxt_some h1] at g2 g3 ⊢
    rw [got_some g1 h1, Option.bind_some]
    simp only
    cases h2 : decM 12 decT q1 with
    | none => rw [nxt_none h2]; exact ⟨fun h => (by cases h), fun _ t h => (by cases h)⟩
    | some x2 =>
      obtain ⟨T', q2⟩ := x2
      rw [nxt_some h2] at g3 ⊢
      rw [got_some g2 h2, Option.bind_some]
      simp only
      cases h3 : decM 64 decG q2 with
      | none => rw [nxt_none h3]; exact ⟨fun h => (by cases h), fun _ t h => (by cases h)⟩
      | some x3 =>
        obtain ⟨G', q3⟩ := x3
        rw [nxt_some h3, got_some g3 h3, Option.bind_some]
        simp only
        exact ⟨fun h => by injection h with h; rw [h], fun h t e => h (by injection e with e; injection e with _ e; rw [e])⟩
theorem tree_rowT (L : List Tb) : ((List.range L.length).map fun j => treeT (L.getD j default)) = L.map treeT := by
  apply List.ext_getElem
  · simp
  · intro i h1 h2
    simp at h1 h2 ⊢
    rw [List.getElem?_eq_getElem h2]; rfl
theorem set3_grown (w : World) (g : Nat) (x y z : Value) : w.grownBy (((w.setCell ⟨g, 0, none⟩ x).setCell ⟨g, 1, none⟩ y).setCell ⟨g, 2, none⟩ z) (some g) :=
  grownBy_tr (grownBy_tr (grownBy_set _ _ _ _) (grownBy_set _ _ _ _)) (grownBy_set _ _ _ _)

set_option maxRecDepth 100000 in
set_option maxHeartbeats 1600000 in
theorem sread_any (l : List UInt8) (w : World) (hl : l.length ≤ 20000000) :
    Calls Try.prog 9 #[.string ⟨l.toArray⟩] w fun e w' => Below w.heap.size w w' ∧
      ((∃ s : Sc, e = .returned (.tuple #[s.val, .int .i64 0]) ∧ InS w' s ∧ decSd l = some (treeS s, [])) ∨ (e = .returned (.tuple #[.agg #[.int .i64 0, .slice none 0 0, .slice none 0 0], .int .i64 4]) ∧ ∀ t, decSd l ≠ some (t, []))) := by
  have hA := At.fresh w 25 #[.int .i64 0, .slice none 0 0, .slice none 0 0]
  have g0 : w.grownBy (w.alloc (.cells #[.int .i64 0, .slice none 0 0, .slice none 0 0] 25)) none := World.grownBy_alloc _ _ _
  have hs0 : (w.alloc (.cells #[.int .i64 0, .slice none 0 0, .slice none 0 0] 25)).heap.size = w.heap.size + 1 := World.size_alloc _ _
  go_enter Try.func9, Try.ntmps9
  go_wp2_with fail
  refine (open_any l _).mono ?_
  rw [hs0]
  rintro e w1 ⟨rfl, h1, r1⟩
  have hA1 := At.grown hA r1 (fun e => by cases e)
  have g1 := grownBy_tr g0 r1
  have hR1 : RdO w1 (w.heap.size + 1) (some l) := h1
  have hz1 : w.heap.size + 1 < w1.heap.size := At.lt h1
  have hne : some w.heap.size ≠ some (w.heap.size + 1) := fun e => by injection e; omega
  have L0 : lenO (some l) ≤ 20000000 := hl
  have L1 := len_I (some l)
  have L2 := len_sound (d := decM 12 decT) (en := fun x => enc x.length ++ (x.map encT).flatten) (fun l x r hx => (decM_sound (good := fun _ => True) (fun _ _ _ h => ⟨(decT_sound h).1, trivial⟩) hx).1) (nxt decI (some l))
  go_wp2_with fail
  refine (oI_any _ _ _ hR1 L0).mono ?_
  rintro e w2 ⟨ver, rfl, i2, k2, h2, r2⟩
  have hA2 := At.grown hA1 r2 hne
  go_wp2_with fail
  refine (takeLT_any _ 12 _ _ h2 (by omega)).mono ?_
  rintro e w3 ⟨tv, T, rfl, hT, nT, k3, h3, oT, r3⟩
  have hA3 := At.grown hA2 r3 hne
  go_wp2_with fail
  refine (takeLG_any _ 64 _ _ h3 (by omega)).mono ?_
  rintro e w4 ⟨gv, G, rfl, hG, nG, k4, h4, oG, r4⟩
  have hA4 := At.grown hA3 r4 hne
  obtain ⟨tA, tc, rfl, hRT⟩ := rowT_own oT rfl hT
  obtain ⟨gA, gc, rfl, hRG, hGA⟩ := rowG_own oG rfl hG
  have hEnd := end_any (w.heap.size + 1) _ _ _ (At.alloc h4 (.cells #[.int .i64 ver, .slice tA T.length tc, .slice gA G.length gc] 25))
  have HEnd := Lib.hid hEnd
  have hA5 := At.alloc hA4 (.cells #[.int .i64 ver, .slice tA T.length tc, .slice gA G.length gc] 25)
  have hE5 := At.fresh w4 25 #[.int .i64 ver, .slice tA T.length tc, .slice gA G.length gc]
  obtain ⟨c0, c1, c2⟩ := hA5.tri1
  obtain ⟨f0, f1, f2⟩ := hA5.tri2
  obtain ⟨d0, d1, d2⟩ := hE5.tri1
  have hS := decSd_end k2 k3 k4
  have B0 := (((Below.refl w.heap.size w).grown g1 (Nat.le_refl _) (fun k e => by cases e)).grown r2 g1.size (fun k e => by injection e; omega)).grown r3 (Nat.le_trans g1.size r2.size) (fun k e => by injection e; omega)
  have B1 := B0.grown r4 B0.size (fun k e => by injection e; omega)
  have B2 := B1.alloc B1.size (.cells #[.int .i64 ver, .slice tA T.length tc, .slice gA G.length gc] 25)
  have z1 := r1.size
  clear hA hA1 hA2 hA3 hR1 h1 h2 h3 hEnd oT oG hT
  by_cases he : nxt (decM 64 decG) (nxt (decM 12 decT) (nxt decI (some l))) = some []
  · have hz : endOf ((nxt (decM 64 decG) (nxt (decM 12 decT) (nxt decI (some l)))).getD []) (nxt (decM 64 decG) (nxt (decM 12 decT) (nxt decI (some l)))).isNone = 0 := by rw [he]; simp [endOf]
    go_wp2_with fail
    refine HEnd.out.mono ?_
    rintro e w5 ⟨rfl, rfl⟩
    rw [hz]
    go_wp2_with fail
    have sg := set3_grown (w4.alloc (.cells #[.int .i64 ver, .slice tA T.length tc, .slice gA G.length gc] 25)) w.heap.size (.int .i64 ver) (.slice tA T.length tc) (.slice gA G.length gc)
    have s5 := World.grownBy_alloc w4 (.cells #[.int .i64 ver, .slice tA T.length tc, .slice gA G.length gc] 25) none
    have z2 := r2.size
    have z3 := r3.size
    have z4 := r4.size
    have z5 := s5.size
    have z6 := sg.size
    have kp4 : ∀ k, w.heap.size + 1 < k → k < w4.heap.size → _ = w4.heap[k]? := fun k hk hlk => (sg.block k (by omega) (fun e => by injection e; omega)).trans (s5.block k hlk (fun e => by cases e))
    have kp3 : ∀ k, w.heap.size + 1 < k → k < w3.heap.size → _ = w3.heap[k]? := fun k hk hlk => (kp4 k hk (by omega)).trans (r4.block k hlk (fun e => by injection e; omega))
    refine bodyPost_ret (v := .tuple #[(⟨ver, tA, T.length, tc, fun j => T.getD j default, gA, G.length, gc, G⟩ : Sc).val, .int .i64 0]) (by simp [results, Try.results9, go_sem, Sc.val, c0, c1, c2]) rfl ⟨?_, .inl ⟨_, rfl, ?_, by rw [treeS]; simp only; rw [tree_rowT]; exact hS.1 he⟩⟩
    · exact B2.grown sg B2.size (fun k e => by injection e; omega)
    · refine ⟨i2, by show T.length ≤ _; unfold maxLen; omega, by show G.length ≤ _; have := len_sound (d := decM 12 decT) (en := fun x => enc x.length ++ (x.map encT).flatten) (fun l x r hx => (decM_sound (good := fun _ => True) (fun _ _ _ h => ⟨(decT_sound h).1, trivial⟩) hx).1) (nxt decI (some l)); unfold maxLen; omega, fun hn => ?_, ⟨rfl, hRG.2.1, fun hn => ?_⟩⟩
      · obtain ⟨g, e1, e2, e3, e4⟩ := hRT hn
        refine ⟨g, 0, e1, by omega, fun j hj => ⟨(e4 j hj).1.keep fun i => World.cell?_of_block (a := ⟨g, i, none⟩) (kp3 g (by omega) e3), ((e4 j hj).2.keep (by omega) (fun k hk hlk => kp3 k (by have := hk.1; omega) hlk) (q := fun _ => True) (fun _ _ _ => trivial)).inT⟩⟩
      · obtain ⟨b, off, e1, e2, e3⟩ := hRG.2.2 hn
        obtain ⟨g, f1, f2, f3⟩ := hGA hn
        rw [e1] at f1
        have hbg : b = g := by injection f1 with f1; injection f1
        subst hbg
        exact ⟨b, off, e1, by omega, fun j hj => (e3 j hj).keep fun i => World.cell?_of_block (a := ⟨b, i, none⟩) (kp4 b (by omega) f3)⟩
  · have hz : endOf ((nxt (decM 64 decG) (nxt (decM 12 decT) (nxt decI (some l)))).getD []) (nxt (decM 64 decG) (nxt (decM 12 decT) (nxt decI (some l)))).isNone = 4 := by
      generalize nxt (decM 64 decG) (nxt (decM 12 decT) (nxt decI (some l))) = s at *
      cases s with
      | none => simp [endOf]
      | some r => cases r with
        | nil => exact absurd rfl he
        | cons a r => simp [endOf]
    go_wp2_with fail
    refine HEnd.out.mono ?_
    rintro e w5 ⟨rfl, rfl⟩
    rw [hz]
    go_wp2_with fail
    refine bodyPost_ret (v := .tuple #[.agg #[.int .i64 0, .slice none 0 0, .slice none 0 0], .int .i64 4]) (by simp [results, Try.results9, go_sem, c0, c1, c2]) rfl ⟨?_, .inr ⟨rfl, hS.2 he⟩⟩
    exact B2.grown (set3_grown _ _ _ _ _) B2.size (fun k e => by injection e; omega)
end Go.Proofs.Ytlkeagfmlcbogaa
