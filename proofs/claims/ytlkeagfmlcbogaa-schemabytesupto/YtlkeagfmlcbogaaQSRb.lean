/- takeList for expressions: the function value's contract is a premise. -/
/- takeExpr by levels; takeCheck. -/
import Derived.Test.YtlkeagfmlcbogaaQSRa
namespace Go.Proofs.Ytlkeagfmlcbogaa
open Go.RowKit

theorem InP.keep2 {p q : Nat → Prop} {w w' : World} (hs : w.heap.size ≤ w'.heap.size) (hk : ∀ b, p b → b < w.heap.size → w'.heap[b]? = w.heap[b]?) (hq : ∀ b, p b → b < w.heap.size → q b) : ∀ {e : Ex}, InP p w e → InP q w' e
  | .nil, h => h
  | .mk op col v A n cap arg, h => by
    rw [InP] at h ⊢
    obtain ⟨h1, h2, h3, h4, h5⟩ := h
    refine ⟨h1, h2, h3, h4, fun hn => ?_⟩
    obtain ⟨b, off, e1, e0, e2, e3⟩ := h5 hn
    exact ⟨b, off, e1, hq b e0 e2, Nat.lt_of_lt_of_le e2 hs, fun j hj => ⟨(e3 j hj).1.keep fun i => World.cell?_of_block (a := ⟨b, i, none⟩) (hk b e0 e2), (e3 j hj).2.keep2 hs hk hq⟩⟩
/-- The tree that an expression in memory is. -/
def treeE : Ex → Et
  | .nil => .mk 0 0 ⟨0, 0, []⟩ []
  | .mk op col v _ n _ arg => .mk op col v ((List.range n).map fun j => treeE (arg j))
/-- What a step that takes an expression gives. -/
def TookE (d : List UInt8 → Option (Et × List UInt8)) (b : Nat) (st : Option (List UInt8)) (w : World) (e : Ending) (w' : World) : Prop :=
  ∃ x : Ex, e = .returned x.val ∧ InP (fun k => w.heap.size ≤ k) w' x ∧ Got d st (treeE x) ∧ RdO w' b (nxt d st) ∧ w.grownBy w' (some b)

theorem decN_pos {bound : Int} {st : Option (List UInt8)} {n : Nat} (hz : st.bind (decN bound) = none → n = 0) (hN : Got (decN bound) st n) (hn : 0 < n) : 0 < bound := by
  cases hs : st.bind (decN bound) with
  | none => have := hz hs; omega
  | some y =>
    obtain ⟨m, r⟩ := y
    have e := hN m r hs
    subst e
    cases st with
    | none => cases hs
    | some l =>
      rw [Option.bind_some] at hs
      unfold decN at hs
      cases hi : decI l with
      | none => rw [hi] at hs; cases hs
      | some x =>
        rw [hi, Option.bind_some] at hs
        split at hs
        · cases hs
        · injection hs with hs; injection hs with e1 e2; omega
theorem len_sound {α : Type} {d : List UInt8 → Option (α × List UInt8)} {en : α → List UInt8} (h : ∀ l x r, d l = some (x, r) → l = en x ++ r) (st : Option (List UInt8)) : lenO (nxt d st) ≤ lenO st := by
  cases st with
  | none => exact Nat.le_refl _
  | some l =>
    cases hd : d l with
    | none => rw [nxt_none hd]; exact Nat.zero_le _
    | some y =>
      obtain ⟨x, r⟩ := y
      rw [nxt_some hd]
      have e := h l x r hd
      show r.length ≤ l.length
      rw [e, List.length_append]; omega

set_option maxRecDepth 100000 in
set_option maxHeartbeats 3200000 in
theorem takeLE0_any (d : List UInt8 → Option (Et × List UInt8)) (hd : ∀ s, lenO (nxt d s) ≤ lenO s) (b : Nat) (bound : Int) (st : Option (List UInt8)) (w : World) (h : RdO w b st) (hl : lenO st ≤ 20000000)
    (hG : 0 < bound → ∀ (w1 : World) (s1 : Option (List UInt8)), w.grownBy w1 (some b) → RdO w1 b s1 → lenO s1 ≤ 20000000 → Calls Try.prog 58 #[.pointer (some ⟨b, 0, none⟩)] w1 (TookE d b s1 w1)) :
    Calls Try.prog 57 #[.pointer (some ⟨b, 0, none⟩), .int .i64 bound, .func (.func 58) #[] #[]] w fun e w' => ∃ v, ∃ L : List Ex, e = .returned v ∧ (∀ x ∈ L, InP (fun k => w.heap.size ≤ k ∧ v.ownBlock ≠ some k) w' x) ∧ L.length ≤ lenO st ∧ Got (decM bound d) st (L.map treeE) ∧ RdO w' b (nxt (decM bound d) st) ∧ w'.ownsRow w.heap.size 45 6 v L.length (L.flatMap Ex.cs) ∧ w.grownBy w' (some b) := by
  have hbl := h.lt
  go_enter Try.func57, Try.ntmps57
  go_wp2_with fail
  refine (oM_any b bound st _ h hl).mono ?_
  rintro e w1 ⟨n, rfl, hn, hz, kN, h1, g1⟩
  have hpos := decN_pos hz kN
  clear hz
  have lN := len_N bound st
  go_wp2_with fail
  go_loopw [7, 11] (fun v i wr => ∃ L : List Ex, ∃ sK : Option (List UInt8), L.length ≤ n ∧ i = .int .i64 (L.length : Int) ∧ (∀ x ∈ L, InP (fun k => w.heap.size ≤ k ∧ v.ownBlock ≠ some k) wr x) ∧ Inv d (nxt (decN bound) st) (L.map treeE) sK ∧ lenO sK ≤ lenO st ∧ RdO wr b sK ∧ wr.ownsRow w.heap.size 45 6 v L.length (L.flatMap Ex.cs) ∧ w.grownBy wr (some b)) (fun _ i _ => n - (intOf i).toNat)
  case atStart => exact ⟨[], nxt (decN bound) st, by simp, rfl, by simp, inv_zero _ _, lN, h1, World.ownsRow_nil _ _ _ 6, g1⟩
  case round =>
    clear h1 g1
    obtain ⟨L, sK, hLn, rfl, hok, hI, hlK, hR, hown, hg⟩ := hrel
    by_cases hlt : L.length < n
    · go_wp2_with fail
      refine (hG (hpos (by omega)) _ sK hg hR (by omega)).mono ?_
      rintro e w2 ⟨x, rfl, hx, kc, h2, g2⟩
      have hown2 := own_keep2 hown g2 (by omega)
      have hg2 := grownBy_tr hg g2
      have hI2 := inv_succ hI kc
      have hlC := hd sK
      have hapart : ∀ g, u7.ownBlock = some g → w.heap.size ≤ g := fun g hg => (World.ownsRow.lt hown2 g hg).1
      have hrow : ∀ g, u7.ownBlock = some g → g < wr.heap.size := fun g hg => (World.ownsRow.lt hown g hg).2
      have hle := hg2.size
      have hle1 := hg.size
      have hok2 : ∀ y ∈ L ++ [x], InP (fun k => w.heap.size ≤ k ∧ u7.ownBlock ≠ some k) w2 y := by
        intro y hy
        rcases List.mem_append.1 hy with k | k
        · exact (hok y k).keep2 g2.size (fun c hc hlc => g2.block c hlc (fun e => by injection e; have := hc.1; omega)) (fun c hc _ => hc)
        · rw [List.mem_singleton] at k; subst k
          exact hx.keep2 (Nat.le_refl _) (fun _ _ _ => rfl) (fun c hc _ => ⟨by omega, fun e => by have := hrow c e; omega⟩)
      have HI2 := Lib.hid hI2
      have HK2 := Lib.hid hok2
      clear hown hg g2 hI hI2 kc hR hok hok2
      cases x with
      | nil => exact absurd hx (by simp [InP])
      | mk op col vl xA xn xc xarg =>
      have hvx : (Ex.mk op col vl xA xn xc xarg).val = .agg #[.int .i64 op, .int .i64 col, .int .i64 vl.kind, .int .i64 vl.num, .string ⟨vl.text.toArray⟩, .slice xA xn xc] := rfl
      rw [hvx]
      clear hvx hx
      go_wp2_with (at_builtin; (refine wp_append1 rfl (.tmp 13) (.tmp 17) 37 rfl 45 6 72 _ Try.underlying37 info_expr rfl (by omega) hown2 #[.int .i64 op, .int .i64 col, .int .i64 vl.kind, .int .i64 vl.num, .string ⟨vl.text.toArray⟩, .slice xA xn xc] 45 rfl rfl rfl rfl ?c1 (by omega) (by omega) hle ?_))
      case c1 => exact ⟨rfl, rfl, rfl, rfl, rfl, rfl⟩
      intro g cap w5 ho5 hg5 hlt5
      have h5 : RdO w5 b (nxt d sK) := At.grown h2 hg5.grown (fun e => by have := hapart b e.symm; omega)
      have hg6 := grown_own hg2 hg5.grown hapart
      have HO5 := Lib.hid ho5
      have hok5 : ∀ y ∈ L ++ [Ex.mk op col vl xA xn xc xarg], InP (fun k => w.heap.size ≤ k ∧ (Value.slice (some ⟨g, 0, none⟩) (L.length + 1) cap).ownBlock ≠ some k) w5 y := fun y hy =>
        (HK2.out y hy).keep2 hg5.grown.size (fun c hc hlc => hg5.grown.block c hlc (fun e => hc.2 e.symm)) (fun c hc hlc => ⟨hc.1, fun e => by
          rcases hg5.lies c e with q | q
          · exact hc.2 q
          · omega⟩)
      have HK5 := Lib.hid hok5
      clear ho5 hg5 hg2 hown2 h2 hapart hok5
      go_wp2_with fail
      refine ⟨⟨L ++ [Ex.mk op col vl xA xn xc xarg], nxt d sK, by simp; omega, by rw [List.length_append]; go_num, HK5.out, by rw [List.map_append]; exact HI2.out, by omega, h5, ?_, hg6⟩, by simp [intOf]; omega⟩
      rw [List.flatMap_append, List.length_append]; exact HO5.out
    · obtain hn2 : L.length = n := by omega
      have hE := inv_end kN hI (by rw [List.length_map]; exact hn2)
      go_wp2_with fail
      go_ret
      exact ⟨_, L, rfl, hok, by omega, hE.1, by rw [hE.2]; exact hR, hown, hg⟩

set_option maxRecDepth 100000 in
set_option maxHeartbeats 3200000 in
theorem takeLE1_any (cl : Nat) (d : List UInt8 → Option (Et × List UInt8)) (hd : ∀ s, lenO (nxt d s) ≤ lenO s) (b : Nat) (bound : Int) (st : Option (List UInt8)) (w : World) (h : RdO w b st) (hl : lenO st ≤ 20000000)
    (hG : 0 < bound → ∀ (w1 : World) (s1 : Option (List UInt8)), w.grownBy w1 (some b) → RdO w1 b s1 → lenO s1 ≤ 20000000 → Calls Try.prog 81 #[.pointer (some ⟨b, 0, none⟩), .pointer (some ⟨cl, 0, none⟩)] w1 (TookE d b s1 w1)) :
    Calls Try.prog 57 #[.pointer (some ⟨b, 0, none⟩), .int .i64 bound, .func (.func 81) #[] #[.pointer (some ⟨cl, 0, none⟩)]] w fun e w' => ∃ v, ∃ L : List Ex, e = .returned v ∧ (∀ x ∈ L, InP (fun k => w.heap.size ≤ k ∧ v.ownBlock ≠ some k) w' x) ∧ L.length ≤ lenO st ∧ Got (decM bound d) st (L.map treeE) ∧ RdO w' b (nxt (decM bound d) st) ∧ w'.ownsRow w.heap.size 45 6 v L.length (L.flatMap Ex.cs) ∧ w.grownBy w' (some b) := by
  have hbl := h.lt
  go_enter Try.func57, Try.ntmps57
  go_wp2_with fail
  refine (oM_any b bound st _ h hl).mono ?_
  rintro e w1 ⟨n, rfl, hn, hz, kN, h1, g1⟩
  have hpos := decN_pos hz kN
  clear hz
  have lN := len_N bound st
  go_wp2_with fail
  go_loopw [7, 11] (fun v i wr => ∃ L : List Ex, ∃ sK : Option (List UInt8), L.length ≤ n ∧ i = .int .i64 (L.length : Int) ∧ (∀ x ∈ L, InP (fun k => w.heap.size ≤ k ∧ v.ownBlock ≠ some k) wr x) ∧ Inv d (nxt (decN bound) st) (L.map treeE) sK ∧ lenO sK ≤ lenO st ∧ RdO wr b sK ∧ wr.ownsRow w.heap.size 45 6 v L.length (L.flatMap Ex.cs) ∧ w.grownBy wr (some b)) (fun _ i _ => n - (intOf i).toNat)
  case atStart => exact ⟨[], nxt (decN bound) st, by simp, rfl, by simp, inv_zero _ _, lN, h1, World.ownsRow_nil _ _ _ 6, g1⟩
  case round =>
    clear h1 g1
    obtain ⟨L, sK, hLn, rfl, hok, hI, hlK, hR, hown, hg⟩ := hrel
    by_cases hlt : L.length < n
    · go_wp2_with fail
      refine (hG (hpos (by omega)) _ sK hg hR (by omega)).mono ?_
      rintro e w2 ⟨x, rfl, hx, kc, h2, g2⟩
      have hown2 := own_keep2 hown g2 (by omega)
      have hg2 := grownBy_tr hg g2
      have hI2 := inv_succ hI kc
      have hlC := hd sK
      have hapart : ∀ g, u7.ownBlock = some g → w.heap.size ≤ g := fun g hg => (World.ownsRow.lt hown2 g hg).1
      have hrow : ∀ g, u7.ownBlock = some g → g < wr.heap.size := fun g hg => (World.ownsRow.lt hown g hg).2
      have hle := hg2.size
      have hle1 := hg.size
      have hok2 : ∀ y ∈ L ++ [x], InP (fun k => w.heap.size ≤ k ∧ u7.ownBlock ≠ some k) w2 y := by
        intro y hy
        rcases List.mem_append.1 hy with k | k
        · exact (hok y k).keep2 g2.size (fun c hc hlc => g2.block c hlc (fun e => by injection e; have := hc.1; omega)) (fun c hc _ => hc)
        · rw [List.mem_singleton] at k; subst k
          exact hx.keep2 (Nat.le_refl _) (fun _ _ _ => rfl) (fun c hc _ => ⟨by omega, fun e => by have := hrow c e; omega⟩)
      have HI2 := Lib.hid hI2
      have HK2 := Lib.hid hok2
      clear hown hg g2 hI hI2 kc hR hok hok2
      cases x with
      | nil => exact absurd hx (by simp [InP])
      | mk op col vl xA xn xc xarg =>
      have hvx : (Ex.mk op col vl xA xn xc xarg).val = .agg #[.int .i64 op, .int .i64 col, .int .i64 vl.kind, .int .i64 vl.num, .string ⟨vl.text.toArray⟩, .slice xA xn xc] := rfl
      rw [hvx]
      clear hvx hx
      go_wp2_with (at_builtin; (refine wp_append1 rfl (.tmp 13) (.tmp 17) 37 rfl 45 6 72 _ Try.underlying37 info_expr rfl (by omega) hown2 #[.int .i64 op, .int .i64 col, .int .i64 vl.kind, .int .i64 vl.num, .string ⟨vl.text.toArray⟩, .slice xA xn xc] 45 rfl rfl rfl rfl ?c1 (by omega) (by omega) hle ?_))
      case c1 => exact ⟨rfl, rfl, rfl, rfl, rfl, rfl⟩
      intro g cap w5 ho5 hg5 hlt5
      have h5 : RdO w5 b (nxt d sK) := At.grown h2 hg5.grown (fun e => by have := hapart b e.symm; omega)
      have hg6 := grown_own hg2 hg5.grown hapart
      have HO5 := Lib.hid ho5
      have hok5 : ∀ y ∈ L ++ [Ex.mk op col vl xA xn xc xarg], InP (fun k => w.heap.size ≤ k ∧ (Value.slice (some ⟨g, 0, none⟩) (L.length + 1) cap).ownBlock ≠ some k) w5 y := fun y hy =>
        (HK2.out y hy).keep2 hg5.grown.size (fun c hc hlc => hg5.grown.block c hlc (fun e => hc.2 e.symm)) (fun c hc hlc => ⟨hc.1, fun e => by
          rcases hg5.lies c e with q | q
          · exact hc.2 q
          · omega⟩)
      have HK5 := Lib.hid hok5
      clear ho5 hg5 hg2 hown2 h2 hapart hok5
      go_wp2_with fail
      refine ⟨⟨L ++ [Ex.mk op col vl xA xn xc xarg], nxt d sK, by simp; omega, by rw [List.length_append]; go_num, HK5.out, by rw [List.map_append]; exact HI2.out, by omega, h5, ?_, hg6⟩, by simp [intOf]; omega⟩
      rw [List.flatMap_append, List.length_append]; exact HO5.out
    · obtain hn2 : L.length = n := by omega
      have hE := inv_end kN hI (by rw [List.length_map]; exact hn2)
      go_wp2_with fail
      go_ret
      exact ⟨_, L, rfl, hok, by omega, hE.1, by rw [hE.2]; exact hR, hown, hg⟩
end Go.Proofs.Ytlkeagfmlcbogaa

namespace Go.Proofs.Ytlkeagfmlcbogaa
open Go.RowKit

theorem TookE.wide {d : List UInt8 → Option (Et × List UInt8)} {b : Nat} {st : Option (List UInt8)} {w w1 w2 : World} {e : Ending} (h : TookE d b st w1 e w2) (g : w.grownBy w1 (some b)) : TookE d b st w e w2 := by
  obtain ⟨x, h1, h2, h3, h4, h5⟩ := h
  exact ⟨x, h1, h2.keep2 (Nat.le_refl _) (fun _ _ _ => rfl) (fun c hc _ => Nat.le_trans g.size hc), h3, h4, grownBy_tr g h5⟩

theorem set6_grown (w : World) (g : Nat) (x y z p q r : Value) : w.grownBy ((((((w.setCell ⟨g, 0, none⟩ x).setCell ⟨g, 1, none⟩ y).setCell ⟨g, 2, none⟩ z).setCell ⟨g, 3, none⟩ p).setCell ⟨g, 4, none⟩ q).setCell ⟨g, 5, none⟩ r) (some g) :=
  grownBy_tr (grownBy_tr (grownBy_tr (grownBy_tr (grownBy_tr (grownBy_set _ _ _ _) (grownBy_set _ _ _ _)) (grownBy_set _ _ _ _)) (grownBy_set _ _ _ _)) (grownBy_set _ _ _ _)) (grownBy_set _ _ _ _)

set_option maxRecDepth 100000 in
set_option maxHeartbeats 800000 in
/-- The closure of takeExpr: it hands on one level less. -/
theorem takeX1_any (lv : Int) (d : List UInt8 → Option (Et × List UInt8)) (cl b : Nat) (st : Option (List UInt8)) (w : World) (h : RdO w b st) (hc : At w cl 3 #[.int .i64 lv]) (hlv : 0 < lv ∧ lv ≤ 8)
    (hG : ∀ w1, RdO w1 b st → Calls Try.prog 72 #[.pointer (some ⟨b, 0, none⟩), .int .i64 (lv - 1)] w1 (TookE d b st w1)) :
    Calls Try.prog 81 #[.pointer (some ⟨b, 0, none⟩), .pointer (some ⟨cl, 0, none⟩)] w (TookE d b st w) := by
  have g0 : w.grownBy (w.alloc (.cells #[.int .i64 0, .int .i64 0, .int .i64 0, .int .i64 0, .string ⟨#[]⟩, .slice none 0 0] 45)) (some b) := World.grownBy_alloc _ _ _
  have h0 : RdO (w.alloc (.cells #[.int .i64 0, .int .i64 0, .int .i64 0, .int .i64 0, .string ⟨#[]⟩, .slice none 0 0] 45)) b st := At.alloc h _
  have c0 : (w.alloc (.cells #[.int .i64 0, .int .i64 0, .int .i64 0, .int .i64 0, .string ⟨#[]⟩, .slice none 0 0] 45)).cell? ⟨cl, 0, none⟩ = some (.int .i64 lv) := (At.alloc hc _).cell 0
  go_enter Try.func81, Try.ntmps81
  go_wp2_with fail
  refine (hG _ h0).mono ?_
  intro e w1 ht
  have hT := ht.wide g0
  have hAw := (At.fresh w 45 #[.int .i64 0, .int .i64 0, .int .i64 0, .int .i64 0, .string ⟨#[]⟩, .slice none 0 0])
  obtain ⟨x, rfl, hx, hk, h1, g1⟩ := ht
  cases x with
  | nil => exact absurd hx (by simp [InP])
  | mk op col vl xA xn xc xarg =>
  have hvx : (Ex.mk op col vl xA xn xc xarg).val = .agg #[.int .i64 op, .int .i64 col, .int .i64 vl.kind, .int .i64 vl.num, .string ⟨vl.text.toArray⟩, .slice xA xn xc] := rfl
  have hA1 := At.grown hAw g1 (fun e => by injection e with e; have := h.lt; omega)
  obtain ⟨f0, f1, f2, f3, f4, f5⟩ := hA1.six2
  obtain ⟨d0, d1, d2, d3, d4, d5⟩ := hA1.six
  rw [hvx]
  clear c0 hc hA1 hAw
  go_wp2_with fail
  refine bodyPost_ret (v := (Ex.mk op col vl xA xn xc xarg).val) (by simp [results, Try.results81, go_sem, hvx, d0, d1, d2, d3, d4, d5]) rfl ⟨_, rfl, ?_, hk, At.put6 h1 (by have := h.lt; omega) _ _ _ _ _ _, grown_put6 (grownBy_tr g0 g1) _ _ _ _ _ _⟩
  have gs := set6_grown w1 w.heap.size (.int .i64 op) (.int .i64 col) (.int .i64 vl.kind) (.int .i64 vl.num) (.string ⟨vl.text.toArray⟩) (.slice xA xn xc)
  rw [World.size_alloc] at hx
  exact hx.keep2 gs.size (fun c hc hlc => gs.block c hlc (fun e => by injection e; omega)) (fun c hc _ => by omega)

theorem stepE_nxt (m : List UInt8 → Option (List Et × List UInt8)) (st : Option (List UInt8)) : nxt (stepE m) st = nxt m (nxt decV (nxt decI (nxt decI st))) := by
  cases st with
  | none => rfl
  | some l =>
    have hC : ∀ o : Option (Et × List UInt8), stepE m l = o → nxt (stepE m) (some l) = o.map (·.2) := fun o h => by unfold nxt; rw [Option.bind_some, h]
    unfold stepE at hC
    cases h1 : decI l with
    | none => rw [nxt_none h1]; exact hC none (by rw [h1]; rfl)
    | some x1 =>
      obtain ⟨n, q1⟩ := x1
      rw [nxt_some h1]
      cases h2 : decI q1 with
      | none => rw [nxt_none h2]; exact hC none (by rw [h1, Option.bind_some]; simp only; rw [h2]; rfl)
      | some x2 =>
        obtain ⟨f, q2⟩ := x2
        rw [nxt_some h2]
        cases h3 : decV q2 with
        | none => rw [nxt_none h3]; exact hC none (by rw [h1, Option.bind_some]; simp only; rw [h2, Option.bind_some]; simp only; rw [h3]; rfl)
        | some x3 =>
          obtain ⟨k, q3⟩ := x3
          rw [nxt_some h3]
          cases h4 : m q3 with
          | none => rw [nxt_none h4]; exact hC none (by rw [h1, Option.bind_some]; simp only; rw [h2, Option.bind_some]; simp only; rw [h3, Option.bind_some]; simp only; rw [h4]; rfl)
          | some x4 =>
            obtain ⟨a, q4⟩ := x4
            rw [nxt_some h4]
            exact hC (some (.mk n f k a, q4)) (by rw [h1, Option.bind_some]; simp only; rw [h2, Option.bind_some]; simp only; rw [h3, Option.bind_some]; simp only; rw [h4]; rfl)
theorem stepE_got {m : List UInt8 → Option (List Et × List UInt8)} {st : Option (List UInt8)} {n f : Int} {k : Vl} {a : List Et} (g1 : Got decI st n) (g2 : Got decI (nxt decI st) f) (g3 : Got decV (nxt decI (nxt decI st)) k) (g4 : Got m (nxt decV (nxt decI (nxt decI st))) a) : Got (stepE m) st (.mk n f k a) := by
  cases st with
  | none => exact got_nil _ _
  | some l =>
    intro c r h
    rw [Option.bind_some] at h
    unfold stepE at h
    simp only [Option.bind_eq_some_iff] at h
    obtain ⟨⟨n', q1⟩, h1, ⟨f', q2⟩, h2, ⟨k', q3⟩, h3, ⟨a', q4⟩, h4, h7⟩ := h
    injection h7 with h7; injection h7 with e1 e2
    subst e1
    dsimp only at *
    rw [nxt_some h1] at g2 g3 g4
    rw [nxt_some h2] at g3 g4
    rw [nxt_some h3] at g4
    rw [got_some g1 h1, got_some g2 h2, got_some g3 h3, got_some g4 h4]
theorem tree_row (L : List Ex) : ((List.range L.length).map fun j => treeE (L.getD j .nil)) = L.map treeE := by
  apply List.ext_getElem
  · simp
  · intro i h1 h2
    simp at h1 h2 ⊢
    rw [List.getElem?_eq_getElem h2]; rfl
theorem rowP_own {w : World} {base n : Nat} {v : Value} {L : List Ex} {p q : Nat → Prop} (h : w.ownsRow base 45 6 v n (L.flatMap Ex.cs)) (hn : L.length = n) (hx : ∀ x ∈ L, InP p w x) (hq : ∀ g, base ≤ g → q g) (hp : ∀ g, p g → q g) :
    ∃ A c, v = .slice A n c ∧ RowP q w A n (fun j => L.getD j .nil) := by
  obtain ⟨A, c, rfl, hc⟩ := own_cells Ex.cs .nil (fun _ => rfl) L h hn
  refine ⟨A, c, rfl, fun h0 => ?_⟩
  obtain ⟨g, e1, e2, e3, e4⟩ := hc h0
  refine ⟨g, 0, e1, hq g e2, e3, fun j hj => ⟨?_, ?_⟩⟩
  · have k := e4 j hj
    rw [Nat.zero_add]
    exact ⟨k 0 (by omega), k 1 (by omega), k 2 (by omega), k 3 (by omega), k 4 (by omega), k 5 (by omega)⟩
  · refine (hx _ ?_).keep2 (Nat.le_refl _) (fun _ _ _ => rfl) (fun c hc _ => hp c hc)
    have hj' : j < L.length := by omega
    simp only [List.getD_eq_getElem?_getD, List.getElem?_eq_getElem hj', Option.getD_some]
    exact List.getElem_mem hj'

set_option maxRecDepth 100000 in
set_option maxHeartbeats 3200000 in
theorem takeX_step (lv : Nat) (hlv : lv ≤ 8) (bd : Int) (d : List UInt8 → Option (Et × List UInt8)) (hb0 : Hid (lv = 0 → bd = 0)) (hb2 : Hid (0 < lv → bd = 2)) (hd : ∀ s, lenO (nxt d s) ≤ lenO s)
    (hG : 0 < bd → ∀ (b : Nat) (s1 : Option (List UInt8)) (w1 : World), RdO w1 b s1 → lenO s1 ≤ 20000000 → Calls Try.prog 72 #[.pointer (some ⟨b, 0, none⟩), .int .i64 ((lv : Int) - 1)] w1 (TookE d b s1 w1))
    (b : Nat) (st : Option (List UInt8)) (w : World) (h : RdO w b st) (hl : lenO st ≤ 20000000) :
    Calls Try.prog 72 #[.pointer (some ⟨b, 0, none⟩), .int .i64 (lv : Int)] w (TookE (stepE (decM bd d)) b st w) := by
  have hbl := h.lt
  have hA := At.fresh (w.alloc (.cells #[.int .i64 (lv : Int)] 3)) 45 #[.int .i64 0, .int .i64 0, .int .i64 0, .int .i64 0, .string ⟨#[]⟩, .slice none 0 0]
  have hC := (At.fresh w 3 #[.int .i64 (lv : Int)]).alloc (.cells #[.int .i64 0, .int .i64 0, .int .i64 0, .int .i64 0, .string ⟨#[]⟩, .slice none 0 0] 45)
  have h0 : RdO ((w.alloc (.cells #[.int .i64 (lv : Int)] 3)).alloc (.cells #[.int .i64 0, .int .i64 0, .int .i64 0, .int .i64 0, .string ⟨#[]⟩, .slice none 0 0] 45)) b st := At.alloc (At.alloc h _) _
  have g0 : w.grownBy ((w.alloc (.cells #[.int .i64 (lv : Int)] 3)).alloc (.cells #[.int .i64 0, .int .i64 0, .int .i64 0, .int .i64 0, .string ⟨#[]⟩, .slice none 0 0] 45)) (some b) := grownBy_tr (World.grownBy_alloc _ _ _) (World.grownBy_alloc _ _ _)
  rw [World.size_alloc] at hA
  have hne : some w.heap.size ≠ some b := fun e => by injection e; omega
  have hne1 : some (w.heap.size + 1) ≠ some b := fun e => by injection e; omega
  have l1 := len_I st
  have l2 := len_I (nxt decI st)
  have l3 := len_V (nxt decI (nxt decI st))
  generalize hw0 : (w.alloc (.cells #[.int .i64 (lv : Int)] 3)).alloc (.cells #[.int .i64 0, .int .i64 0, .int .i64 0, .int .i64 0, .string ⟨#[]⟩, .slice none 0 0] 45) = w0 at *
  go_enter Try.func72, Try.ntmps72
  go_wp2_with fail
  refine (oI_any b st _ h0 hl).mono ?_
  rintro e w1 ⟨op, rfl, i1, k1, h1, r1⟩
  have hA1 := At.grown hA r1 hne1
  have hC1 := At.grown hC r1 hne
  have g1 := grownBy_tr g0 r1
  go_wp2_with fail
  refine (oI_any b _ _ h1 (by omega)).mono ?_
  rintro e w2 ⟨col, rfl, i2, k2, h2, r2⟩
  have hA2 := At.grown hA1 r2 hne1
  have hC2 := At.grown hC1 r2 hne
  have g2 := grownBy_tr g1 r2
  go_wp2_with fail
  refine (oV_any b _ _ h2 (by omega)).mono ?_
  rintro e w3 ⟨v, rfl, i3, k3, h3, r3⟩
  have hA3 := At.grown hA2 r3 hne1
  have hC3 := At.grown hC2 r3 hne
  have g3 := grownBy_tr g2 r3
  clear hA hA1 hA2 hC hC1 hC2 h0 h1 h2 g0 g1 g2 r1 r2 r3
  have hA4 := At.alloc hA3 (.cells #[.int .i64 op, .int .i64 col, .int .i64 v.kind, .int .i64 v.num, .string ⟨v.text.toArray⟩, .slice none 0 0] 45)
  have hC4 := At.alloc hC3 (.cells #[.int .i64 op, .int .i64 col, .int .i64 v.kind, .int .i64 v.num, .string ⟨v.text.toArray⟩, .slice none 0 0] 45)
  have hE4 := At.fresh w3 45 #[.int .i64 op, .int .i64 col, .int .i64 v.kind, .int .i64 v.num, .string ⟨v.text.toArray⟩, .slice none 0 0]
  have h4 : RdO (w3.alloc (.cells #[.int .i64 op, .int .i64 col, .int .i64 v.kind, .int .i64 v.num, .string ⟨v.text.toArray⟩, .slice none 0 0] 45)) b _ := At.alloc h3 _
  have g4 := grownBy_tr g3 (World.grownBy_alloc w3 (.cells #[.int .i64 op, .int .i64 col, .int .i64 v.kind, .int .i64 v.num, .string ⟨v.text.toArray⟩, .slice none 0 0] 45) (some b))
  have q0 := hC4.cell 0
  have hvv : v.val = .agg #[.int .i64 v.kind, .int .i64 v.num, .string ⟨v.text.toArray⟩] := rfl
  have hle3 := g3.size
  have hlt3 := hA3.lt
  clear hA3 hC3 h3 g3 hw0
  simp only [List.getElem?_toArray, List.getElem?_cons_zero] at q0
  have hL := takeLE1_any w.heap.size d hd b bd _ _ h4 (by omega) (fun hbp w1 s1 hg1 hr1 hl1 => takeX1_any (lv : Int) d w.heap.size b s1 w1 hr1 (At.grown hC4 hg1 hne) ⟨by
    rcases Nat.eq_zero_or_pos lv with hz | hz
    · have := hb0.out hz; omega
    · omega, by omega⟩ (fun w2 hr2 => hG hbp b s1 w2 hr2 hl1))
  have HL := Lib.hid hL
  have hs4 : (w3.alloc (.cells #[.int .i64 op, .int .i64 col, .int .i64 v.kind, .int .i64 v.num, .string ⟨v.text.toArray⟩, .slice none 0 0] 45)).heap.size = w3.heap.size + 1 := World.size_alloc _ _
  rw [hvv]
  clear hL hG hd
  by_cases hz : lv = 0
  · subst hz
    obtain rfl := hb0.out rfl
    go_wp2_with fail
    refine HL.out.mono ?_
    rintro e w5 ⟨v', L, rfl, hok, hn5, hk5, hr5, hown5, hg5⟩
    obtain ⟨rA, rc, rfl, hrow⟩ := rowP_own (q := fun k => w3.heap.size + 1 ≤ k) hown5 rfl hok (fun g hg => by rw [hs4] at hg; exact hg) (fun g hg => by have := hg.1; rw [hs4] at this; exact this)
    have hE5 := At.grown hE4 hg5 (fun e => by injection e; omega)
    have hA5 := At.grown hA4 hg5 hne1
    have g5 := grownBy_tr g4 hg5
    have hG := stepE_got k1 k2 k3 hk5
    have HG := Lib.hid hG
    have HN := Lib.hid (stepE_nxt (decM 0 d) st)
    obtain ⟨c0, c1, c2, c3, c4, c5⟩ := hA5.six
    obtain ⟨f0, f1, f2, f3, f4, f5⟩ := hA5.six2
    obtain ⟨d0, d1, d2, d3, d4, d5⟩ := hE5.six
    obtain ⟨e0, e1, e2, e3, e4, e5⟩ := hE5.six2
    have hnn : w3.heap.size ≠ w.heap.size + 1 := by omega
    clear hown5 hok hg5 hE4 hA4 hC4 h4 g4 hG k1 k2 k3 hk5 hE5 hA5 HL q0
    go_wp2_with fail
    have hX : treeE (Ex.mk op col v rA L.length rc fun j => L.getD j .nil) = .mk op col v (L.map treeE) := by rw [treeE, tree_row]
    have s1 := grownBy_set w5 w3.heap.size 5 (.slice rA L.length rc)
    have s6 := set6_grown (w5.setCell ⟨w3.heap.size, 5, none⟩ (.slice rA L.length rc)) (w.heap.size + 1) (.int .i64 op) (.int .i64 col) (.int .i64 v.kind) (.int .i64 v.num) (.string ⟨v.text.toArray⟩) (.slice rA L.length rc)
    have hvok : v.Ok := ⟨i3.1, i3.2.1, by have := i3.2.2.1; unfold maxLen; omega⟩
    refine bodyPost_ret (v := (Ex.mk op col v rA L.length rc fun j => L.getD j .nil).val) (by simp [results, Try.results72, go_sem, Ex.val, Ex.op, Ex.col, Ex.v, Ex.A, Ex.n, Ex.cap, c0, c1, c2, c3, c4, c5]) rfl ⟨_, rfl, ?_, by rw [hX]; exact HG.out, ?_, grown_own (grown_own g5 s1 (fun g e => by injection e; omega)) s6 (fun g e => by injection e; omega)⟩
    · rw [InP]
      refine ⟨i1, i2, hvok, by unfold maxLen; omega, RowP.keep hrow (Nat.le_trans s1.size s6.size) (fun k hk hlk => ?_) (fun k hk => by omega)⟩
      exact (s6.block k (Nat.lt_of_lt_of_le hlk s1.size) (fun e => by injection e; omega)).trans (s1.block k hlk (fun e => by injection e; omega))
    · rw [HN.out]
      exact At.put6 (At.elsewhere (p := ⟨w3.heap.size, 5, none⟩) hr5 (by show b ≠ w3.heap.size; omega) _) (by omega) _ _ _ _ _ _
  · obtain rfl := hb2.out (by omega)
    have hz2 : (lv : Int) ≠ 0 := by omega
    go_wp2_with fail
    refine HL.out.mono ?_
    rintro e w5 ⟨v', L, rfl, hok, hn5, hk5, hr5, hown5, hg5⟩
    obtain ⟨rA, rc, rfl, hrow⟩ := rowP_own (q := fun k => w3.heap.size + 1 ≤ k) hown5 rfl hok (fun g hg => by rw [hs4] at hg; exact hg) (fun g hg => by have := hg.1; rw [hs4] at this; exact this)
    have hE5 := At.grown hE4 hg5 (fun e => by injection e; omega)
    have hA5 := At.grown hA4 hg5 hne1
    have g5 := grownBy_tr g4 hg5
    have hG := stepE_got k1 k2 k3 hk5
    have HG := Lib.hid hG
    have HN := Lib.hid (stepE_nxt (decM 2 d) st)
    obtain ⟨c0, c1, c2, c3, c4, c5⟩ := hA5.six
    obtain ⟨f0, f1, f2, f3, f4, f5⟩ := hA5.six2
    obtain ⟨d0, d1, d2, d3, d4, d5⟩ := hE5.six
    obtain ⟨e0, e1, e2, e3, e4, e5⟩ := hE5.six2
    have hnn : w3.heap.size ≠ w.heap.size + 1 := by omega
    clear hown5 hok hg5 hE4 hA4 hC4 h4 g4 hG k1 k2 k3 hk5 hE5 hA5 HL q0
    go_wp2_with fail
    have hX : treeE (Ex.mk op col v rA L.length rc fun j => L.getD j .nil) = .mk op col v (L.map treeE) := by rw [treeE, tree_row]
    have s1 := grownBy_set w5 w3.heap.size 5 (.slice rA L.length rc)
    have s6 := set6_grown (w5.setCell ⟨w3.heap.size, 5, none⟩ (.slice rA L.length rc)) (w.heap.size + 1) (.int .i64 op) (.int .i64 col) (.int .i64 v.kind) (.int .i64 v.num) (.string ⟨v.text.toArray⟩) (.slice rA L.length rc)
    have hvok : v.Ok := ⟨i3.1, i3.2.1, by have := i3.2.2.1; unfold maxLen; omega⟩
    refine bodyPost_ret (v := (Ex.mk op col v rA L.length rc fun j => L.getD j .nil).val) (by simp [results, Try.results72, go_sem, Ex.val, Ex.op, Ex.col, Ex.v, Ex.A, Ex.n, Ex.cap, c0, c1, c2, c3, c4, c5]) rfl ⟨_, rfl, ?_, by rw [hX]; exact HG.out, ?_, grown_own (grown_own g5 s1 (fun g e => by injection e; omega)) s6 (fun g e => by injection e; omega)⟩
    · rw [InP]
      refine ⟨i1, i2, hvok, by unfold maxLen; omega, RowP.keep hrow (Nat.le_trans s1.size s6.size) (fun k hk hlk => ?_) (fun k hk => by omega)⟩
      exact (s6.block k (Nat.lt_of_lt_of_le hlk s1.size) (fun e => by injection e; omega)).trans (s1.block k hlk (fun e => by injection e; omega))
    · rw [HN.out]
      exact At.put6 (At.elsewhere (p := ⟨w3.heap.size, 5, none⟩) hr5 (by show b ≠ w3.heap.size; omega) _) (by omega) _ _ _ _ _ _

theorem takeX_any : ∀ (lv : Nat), lv ≤ 8 → ∀ (b : Nat) (st : Option (List UInt8)) (w : World), RdO w b st → lenO st ≤ 20000000 → Calls Try.prog 72 #[.pointer (some ⟨b, 0, none⟩), .int .i64 (lv : Int)] w (TookE (decE lv) b st w)
  | 0, _, b, st, w, h, hl => by
    have e : decE 0 = stepE (decM 0 fun _ => none) := funext decE_zero
    rw [e]
    exact takeX_step 0 (by omega) 0 (fun _ => none) (Lib.hid fun _ => rfl) (Lib.hid fun h => absurd h (by omega)) (fun s => by cases s <;> exact Nat.zero_le _) (fun h => absurd h (by omega)) b st w h hl
  | lv + 1, hlv, b, st, w, h, hl => by
    have e : decE (lv + 1) = stepE (decM 2 (decE lv)) := funext (decE_succ lv)
    rw [e]
    have e2 : ((lv + 1 : Nat) : Int) - 1 = (lv : Int) := by omega
    exact takeX_step (lv + 1) hlv 2 (decE lv) (Lib.hid fun h => absurd h (by omega)) (Lib.hid fun _ => rfl) (len_sound fun l x r hx => (decE_sound lv l x r hx).1) (fun _ b1 s1 w1 h1 hl1 => by rw [e2]; exact takeX_any lv (by omega) b1 s1 w1 h1 hl1) b st w h hl

set_option maxRecDepth 100000 in
set_option maxHeartbeats 800000 in
theorem takeK_any (b : Nat) (st : Option (List UInt8)) (w : World) (h : RdO w b st) (hl : lenO st ≤ 20000000) :
    Calls Try.prog 58 #[.pointer (some ⟨b, 0, none⟩)] w (TookE (decE 8) b st w) := by
  have g0 : w.grownBy (w.alloc (.cells #[.int .i64 0, .int .i64 0, .int .i64 0, .int .i64 0, .string ⟨#[]⟩, .slice none 0 0] 45)) (some b) := World.grownBy_alloc _ _ _
  have h0 : RdO (w.alloc (.cells #[.int .i64 0, .int .i64 0, .int .i64 0, .int .i64 0, .string ⟨#[]⟩, .slice none 0 0] 45)) b st := At.alloc h _
  go_enter Try.func58, Try.ntmps58
  go_wp2_with fail
  refine (takeX_any 8 (by omega) b st _ h0 hl).mono ?_
  intro e w1 ht
  have hT := ht.wide g0
  have hAw := (At.fresh w 45 #[.int .i64 0, .int .i64 0, .int .i64 0, .int .i64 0, .string ⟨#[]⟩, .slice none 0 0])
  obtain ⟨x, rfl, hx, hk, h1, g1⟩ := ht
  cases x with
  | nil => exact absurd hx (by simp [InP])
  | mk op col vl xA xn xc xarg =>
  have hvx : (Ex.mk op col vl xA xn xc xarg).val = .agg #[.int .i64 op, .int .i64 col, .int .i64 vl.kind, .int .i64 vl.num, .string ⟨vl.text.toArray⟩, .slice xA xn xc] := rfl
  have hA1 := At.grown hAw g1 (fun e => by injection e with e; have := h.lt; omega)
  obtain ⟨f0, f1, f2, f3, f4, f5⟩ := hA1.six2
  obtain ⟨d0, d1, d2, d3, d4, d5⟩ := hA1.six
  rw [hvx]
  clear hA1 hAw
  go_wp2_with fail
  refine bodyPost_ret (v := (Ex.mk op col vl xA xn xc xarg).val) (by simp [results, Try.results58, go_sem, hvx, d0, d1, d2, d3, d4, d5]) rfl ⟨_, rfl, ?_, hk, At.put6 h1 (by have := h.lt; omega) _ _ _ _ _ _, grown_put6 (grownBy_tr g0 g1) _ _ _ _ _ _⟩
  have gs := set6_grown w1 w.heap.size (.int .i64 op) (.int .i64 col) (.int .i64 vl.kind) (.int .i64 vl.num) (.string ⟨vl.text.toArray⟩) (.slice xA xn xc)
  rw [World.size_alloc] at hx
  exact hx.keep2 gs.size (fun c hc hlc => gs.block c hlc (fun e => by injection e; omega)) (fun c hc _ => by omega)
end Go.Proofs.Ytlkeagfmlcbogaa
