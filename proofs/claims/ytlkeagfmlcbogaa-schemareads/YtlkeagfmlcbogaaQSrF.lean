/- takeList for expressions: the function value's contract is a premise. -/
import Derived.Test.YtlkeagfmlcbogaaQSRa
namespace Go.Proofs.Ytlkeagfmlcbogaa
open Go.RowKit

theorem InP.keep2 {p q : Nat → Prop} {w w' : World} (hs : w.heap.size ≤ w'.heap.size) (hk : ∀ b, p b → b < w.heap.size → w'.heap[b]? = w.heap[b]?) (hq : ∀ b, p b → b < w.heap.size → q b) : ∀ {e : Ex}, InP p w e → InP q w' e
  | .nil, h => h
  | .mk op col v A n cap arg, h => by
    rw [InP] at h ⊢
    obtain ⟨h1, h2, h3, h4, h5⟩ := h
    refine ⟨h1, h2, h3, h4, fun hn => ?_⟩
    obtain ⟨b, off, e1, e0, e2, e3⟩ := h5 hn
    exact ⟨b, off, e1, hq b e0 e2, Nat.lt_of_lt_of_le e2 hs, fun j hj => ⟨(e3 j hj).1.keep fun i => World.cell?_of_block (a := ⟨b, i, none⟩) (hk b e0 e2), (e3 j hj).2.keep2 hs hk hq⟩⟩
/-- The tree that an expression in memory is. -/
def treeE : Ex → Et
  | .nil => .mk 0 0 ⟨0, 0, []⟩ []
  | .mk op col v _ n _ arg => .mk op col v ((List.range n).map fun j => treeE (arg j))
/-- What a step that takes an expression gives. -/
def TookE (d : List UInt8 → Option (Et × List UInt8)) (b : Nat) (st : Option (List UInt8)) (w : World) (e : Ending) (w' : World) : Prop :=
  ∃ x : Ex, e = .returned x.val ∧ InP (fun k => w.heap.size ≤ k) w' x ∧ Got d st (treeE x) ∧ RdO w' b (nxt d st) ∧ w.grownBy w' (some b)

theorem decN_pos {bound : Int} {st : Option (List UInt8)} {n : Nat} (hz : st.bind (decN bound) = none → n = 0) (hN : Got (decN bound) st n) (hn : 0 < n) : 0 < bound := by
  cases hs : st.bind (decN bound) with
  | none => have := hz hs; omega
  | some y =>
    obtain ⟨m, r⟩ := y
    have e := hN m r hs
    subst e
    cases st with
    | none => cases hs
    | some l =>
      rw [Option.bind_some] at hs
      unfold decN at hs
      cases hi : decI l with
      | none => rw [hi] at hs; cases hs
      | some x =>
        rw [hi, Option.bind_some] at hs
        split at hs
        · cases hs
        · injection hs with hs; injection hs with e1 e2; omega
theorem len_sound {α : Type} {d : List UInt8 → Option (α × List UInt8)} {en : α → List UInt8} (h : ∀ l x r, d l = some (x, r) → l = en x ++ r) (st : Option (List UInt8)) : lenO (nxt d st) ≤ lenO st := by
  cases st with
  | none => exact Nat.le_refl _
  | some l =>
    cases hd : d l with
    | none => rw [nxt_none hd]; exact Nat.zero_le _
    | some y =>
      obtain ⟨x, r⟩ := y
      rw [nxt_some hd]
      have e := h l x r hd
      show r.length ≤ l.length
      rw [e, List.length_append]; omega

set_option maxRecDepth 100000 in
set_option maxHeartbeats 3200000 in
theorem takeLE0_any (d : List UInt8 → Option (Et × List UInt8)) (hd : ∀ s, lenO (nxt d s) ≤ lenO s) (b : Nat) (bound : Int) (st : Option (List UInt8)) (w : World) (h : RdO w b st) (hl : lenO st ≤ 1000000)
    (hG : 0 < bound → ∀ (w1 : World) (s1 : Option (List UInt8)), w.grownBy w1 (some b) → RdO w1 b s1 → lenO s1 ≤ 1000000 → Calls Try.prog 58 #[.pointer (some ⟨b, 0, none⟩)] w1 (TookE d b s1 w1)) :
    Calls Try.prog 57 #[.pointer (some ⟨b, 0, none⟩), .int .i64 bound, .func (.func 58) #[] #[]] w fun e w' => ∃ v, ∃ L : List Ex, e = .returned v ∧ (∀ x ∈ L, InP (fun k => w.heap.size ≤ k ∧ v.ownBlock ≠ some k) w' x) ∧ L.length ≤ lenO st ∧ Got (decM bound d) st (L.map treeE) ∧ RdO w' b (nxt (decM bound d) st) ∧ w'.ownsRow w.heap.size 45 6 v L.length (L.flatMap Ex.cs) ∧ w.grownBy w' (some b) := by
  have hbl := h.lt
  go_enter Try.func57, Try.ntmps57
  go_wp2_with fail
  refine (oM_any b bound st _ h hl).mono ?_
  rintro e w1 ⟨n, rfl, hn, hz, kN, h1, g1⟩
  have hpos := decN_pos hz kN
  clear hz
  have lN := len_N bound st
  go_wp2_with fail
  go_loopw [7, 11] (fun v i wr => ∃ L : List Ex, ∃ sK : Option (List UInt8), L.length ≤ n ∧ i = .int .i64 (L.length : Int) ∧ (∀ x ∈ L, InP (fun k => w.heap.size ≤ k ∧ v.ownBlock ≠ some k) wr x) ∧ Inv d (nxt (decN bound) st) (L.map treeE) sK ∧ lenO sK ≤ lenO st ∧ RdO wr b sK ∧ wr.ownsRow w.heap.size 45 6 v L.length (L.flatMap Ex.cs) ∧ w.grownBy wr (some b)) (fun _ i _ => n - (intOf i).toNat)
  case atStart => exact ⟨[], nxt (decN bound) st, by simp, rfl, by simp, inv_zero _ _, lN, h1, World.ownsRow_nil _ _ _ 6, g1⟩
  case round =>
    clear h1 g1
    obtain ⟨L, sK, hLn, rfl, hok, hI, hlK, hR, hown, hg⟩ := hrel
    by_cases hlt : L.length < n
    · go_wp2_with fail
      refine (hG (hpos (by omega)) _ sK hg hR (by omega)).mono ?_
      rintro e w2 ⟨x, rfl, hx, kc, h2, g2⟩
      have hown2 := own_keep2 hown g2 (by omega)
      have hg2 := grownBy_tr hg g2
      have hI2 := inv_succ hI kc
      have hlC := hd sK
      have hapart : ∀ g, u7.ownBlock = some g → w.heap.size ≤ g := fun g hg => (World.ownsRow.lt hown2 g hg).1
      have hrow : ∀ g, u7.ownBlock = some g → g < wr.heap.size := fun g hg => (World.ownsRow.lt hown g hg).2
      have hle := hg2.size
      have hle1 := hg.size
      have hok2 : ∀ y ∈ L ++ [x], InP (fun k => w.heap.size ≤ k ∧ u7.ownBlock ≠ some k) w2 y := by
        intro y hy
        rcases List.mem_append.1 hy with k | k
        · exact (hok y k).keep2 g2.size (fun c hc hlc => g2.block c hlc (fun e => by injection e; have := hc.1; omega)) (fun c hc _ => hc)
        · rw [List.mem_singleton] at k; subst k
          exact hx.keep2 (Nat.le_refl _) (fun _ _ _ => rfl) (fun c hc _ => ⟨by omega, fun e => by have := hrow c e; omega⟩)
      have HI2 := Lib.hid hI2
      have HK2 := Lib.hid hok2
      clear hown hg g2 hI hI2 kc hR hok hok2
      cases x with
      | nil => exact absurd hx (by simp [InP])
      | mk op col vl xA xn xc xarg =>
      have hvx : (Ex.mk op col vl xA xn xc xarg).val = .agg #[.int .i64 op, .int .i64 col, .int .i64 vl.kind, .int .i64 vl.num, .string ⟨vl.text.toArray⟩, .slice xA xn xc] := rfl
      rw [hvx]
      clear hvx hx
      go_wp2_with (at_builtin; (refine wp_append1 rfl (.tmp 13) (.tmp 17) 37 rfl 45 6 72 _ Try.underlying37 info_expr rfl (by omega) hown2 #[.int .i64 op, .int .i64 col, .int .i64 vl.kind, .int .i64 vl.num, .string ⟨vl.text.toArray⟩, .slice xA xn xc] 45 rfl rfl rfl rfl ?c1 (by omega) (by omega) hle ?_))
      case c1 => exact ⟨rfl, rfl, rfl, rfl, rfl, rfl⟩
      intro g cap w5 ho5 hg5 hlt5
      have h5 : RdO w5 b (nxt d sK) := At.grown h2 hg5.grown (fun e => by have := hapart b e.symm; omega)
      have hg6 := grown_own hg2 hg5.grown hapart
      have HO5 := Lib.hid ho5
      have hok5 : ∀ y ∈ L ++ [Ex.mk op col vl xA xn xc xarg], InP (fun k => w.heap.size ≤ k ∧ (Value.slice (some ⟨g, 0, none⟩) (L.length + 1) cap).ownBlock ≠ some k) w5 y := fun y hy =>
        (HK2.out y hy).keep2 hg5.grown.size (fun c hc hlc => hg5.grown.block c hlc (fun e => hc.2 e.symm)) (fun c hc hlc => ⟨hc.1, fun e => by
          rcases hg5.lies c e with q | q
          · exact hc.2 q
          · omega⟩)
      have HK5 := Lib.hid hok5
      clear ho5 hg5 hg2 hown2 h2 hapart hok5
      go_wp2_with fail
      refine ⟨⟨L ++ [Ex.mk op col vl xA xn xc xarg], nxt d sK, by simp; omega, by rw [List.length_append]; go_num, HK5.out, by rw [List.map_append]; exact HI2.out, by omega, h5, ?_, hg6⟩, by simp [intOf]; omega⟩
      rw [List.flatMap_append, List.length_append]; exact HO5.out
    · obtain hn2 : L.length = n := by omega
      have hE := inv_end kN hI (by rw [List.length_map]; exact hn2)
      go_wp2_with fail
      go_ret
      exact ⟨_, L, rfl, hok, by omega, hE.1, by rw [hE.2]; exact hR, hown, hg⟩

set_option maxRecDepth 100000 in
set_option maxHeartbeats 3200000 in
theorem takeLE1_any (cl : Nat) (d : List UInt8 → Option (Et × List UInt8)) (hd : ∀ s, lenO (nxt d s) ≤ lenO s) (b : Nat) (bound : Int) (st : Option (List UInt8)) (w : World) (h : RdO w b st) (hl : lenO st ≤ 1000000)
    (hG : 0 < bound → ∀ (w1 : World) (s1 : Option (List UInt8)), w.grownBy w1 (some b) → RdO w1 b s1 → lenO s1 ≤ 1000000 → Calls Try.prog 81 #[.pointer (some ⟨b, 0, none⟩), .pointer (some ⟨cl, 0, none⟩)] w1 (TookE d b s1 w1)) :
    Calls Try.prog 57 #[.pointer (some ⟨b, 0, none⟩), .int .i64 bound, .func (.func 81) #[] #[.pointer (some ⟨cl, 0, none⟩)]] w fun e w' => ∃ v, ∃ L : List Ex, e = .returned v ∧ (∀ x ∈ L, InP (fun k => w.heap.size ≤ k ∧ v.ownBlock ≠ some k) w' x) ∧ L.length ≤ lenO st ∧ Got (decM bound d) st (L.map treeE) ∧ RdO w' b (nxt (decM bound d) st) ∧ w'.ownsRow w.heap.size 45 6 v L.length (L.flatMap Ex.cs) ∧ w.grownBy w' (some b) := by
  have hbl := h.lt
  go_enter Try.func57, Try.ntmps57
  go_wp2_with fail
  refine (oM_any b bound st _ h hl).mono ?_
  rintro e w1 ⟨n, rfl, hn, hz, kN, h1, g1⟩
  have hpos := decN_pos hz kN
  clear hz
  have lN := len_N bound st
  go_wp2_with fail
  go_loopw [7, 11] (fun v i wr => ∃ L : List Ex, ∃ sK : Option (List UInt8), L.length ≤ n ∧ i = .int .i64 (L.length : Int) ∧ (∀ x ∈ L, InP (fun k => w.heap.size ≤ k ∧ v.ownBlock ≠ some k) wr x) ∧ Inv d (nxt (decN bound) st) (L.map treeE) sK ∧ lenO sK ≤ lenO st ∧ RdO wr b sK ∧ wr.ownsRow w.heap.size 45 6 v L.length (L.flatMap Ex.cs) ∧ w.grownBy wr (some b)) (fun _ i _ => n - (intOf i).toNat)
  case atStart => exact ⟨[], nxt (decN bound) st, by simp, rfl, by simp, inv_zero _ _, lN, h1, World.ownsRow_nil _ _ _ 6, g1⟩
  case round =>
    clear h1 g1
    obtain ⟨L, sK, hLn, rfl, hok, hI, hlK, hR, hown, hg⟩ := hrel
    by_cases hlt : L.length < n
    · go_wp2_with fail
      refine (hG (hpos (by omega)) _ sK hg hR (by omega)).mono ?_
      rintro e w2 ⟨x, rfl, hx, kc, h2, g2⟩
      have hown2 := own_keep2 hown g2 (by omega)
      have hg2 := grownBy_tr hg g2
      have hI2 := inv_succ hI kc
      have hlC := hd sK
      have hapart : ∀ g, u7.ownBlock = some g → w.heap.size ≤ g := fun g hg => (World.ownsRow.lt hown2 g hg).1
      have hrow : ∀ g, u7.ownBlock = some g → g < wr.heap.size := fun g hg => (World.ownsRow.lt hown g hg).2
      have hle := hg2.size
      have hle1 := hg.size
      have hok2 : ∀ y ∈ L ++ [x], InP (fun k => w.heap.size ≤ k ∧ u7.ownBlock ≠ some k) w2 y := by
        intro y hy
        rcases List.mem_append.1 hy with k | k
        · exact (hok y k).keep2 g2.size (fun c hc hlc => g2.block c hlc (fun e => by injection e; have := hc.1; omega)) (fun c hc _ => hc)
        · rw [List.mem_singleton] at k; subst k
          exact hx.keep2 (Nat.le_refl _) (fun _ _ _ => rfl) (fun c hc _ => ⟨by omega, fun e => by have := hrow c e; omega⟩)
      have HI2 := Lib.hid hI2
      have HK2 := Lib.hid hok2
      clear hown hg g2 hI hI2 kc hR hok hok2
      cases x with
      | nil => exact absurd hx (by simp [InP])
      | mk op col vl xA xn xc xarg =>
      have hvx : (Ex.mk op col vl xA xn xc xarg).val = .agg #[.int .i64 op, .int .i64 col, .int .i64 vl.kind, .int .i64 vl.num, .string ⟨vl.text.toArray⟩, .slice xA xn xc] := rfl
      rw [hvx]
      clear hvx hx
      go_wp2_with (at_builtin; (refine wp_append1 rfl (.tmp 13) (.tmp 17) 37 rfl 45 6 72 _ Try.underlying37 info_expr rfl (by omega) hown2 #[.int .i64 op, .int .i64 col, .int .i64 vl.kind, .int .i64 vl.num, .string ⟨vl.text.toArray⟩, .slice xA xn xc] 45 rfl rfl rfl rfl ?c1 (by omega) (by omega) hle ?_))
      case c1 => exact ⟨rfl, rfl, rfl, rfl, rfl, rfl⟩
      intro g cap w5 ho5 hg5 hlt5
      have h5 : RdO w5 b (nxt d sK) := At.grown h2 hg5.grown (fun e => by have := hapart b e.symm; omega)
      have hg6 := grown_own hg2 hg5.grown hapart
      have HO5 := Lib.hid ho5
      have hok5 : ∀ y ∈ L ++ [Ex.mk op col vl xA xn xc xarg], InP (fun k => w.heap.size ≤ k ∧ (Value.slice (some ⟨g, 0, none⟩) (L.length + 1) cap).ownBlock ≠ some k) w5 y := fun y hy =>
        (HK2.out y hy).keep2 hg5.grown.size (fun c hc hlc => hg5.grown.block c hlc (fun e => hc.2 e.symm)) (fun c hc hlc => ⟨hc.1, fun e => by
          rcases hg5.lies c e with q | q
          · exact hc.2 q
          · omega⟩)
      have HK5 := Lib.hid hok5
      clear ho5 hg5 hg2 hown2 h2 hapart hok5
      go_wp2_with fail
      refine ⟨⟨L ++ [Ex.mk op col vl xA xn xc xarg], nxt d sK, by simp; omega, by rw [List.length_append]; go_num, HK5.out, by rw [List.map_append]; exact HI2.out, by omega, h5, ?_, hg6⟩, by simp [intOf]; omega⟩
      rw [List.flatMap_append, List.length_append]; exact HO5.out
    · obtain hn2 : L.length = n := by omega
      have hE := inv_end kN hI (by rw [List.length_map]; exact hn2)
      go_wp2_with fail
      go_ret
      exact ⟨_, L, rfl, hok, by omega, hE.1, by rw [hE.2]; exact hR, hown, hg⟩
end Go.Proofs.Ytlkeagfmlcbogaa
