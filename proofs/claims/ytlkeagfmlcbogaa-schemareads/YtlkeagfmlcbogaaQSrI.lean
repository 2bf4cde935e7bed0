/- takeList for tables. -/
import Derived.Test.YtlkeagfmlcbogaaQSrH
namespace Go.Proofs.Ytlkeagfmlcbogaa
open Go.RowKit

theorem len_T (st : Option (List UInt8)) : lenO (nxt decT st) ≤ lenO st := len_sound (fun _ _ _ hx => (decT_sound hx).1) st
theorem info_table : (Try.prog.info? 39).map (fun i => (i.zero, i.size, i.bytes)) = some (some (.agg #[.string ⟨#[]⟩, .int .i64 0, .slice none 0 0, .slice none 0 0]), 4, 72) := by kernel_rfl

set_option maxRecDepth 100000 in
set_option maxHeartbeats 3200000 in
theorem takeLT_any (b : Nat) (bound : Int) (st : Option (List UInt8)) (w : World) (h : RdO w b st) (hl : lenO st ≤ 1000000) :
    Calls Try.prog 28 #[.pointer (some ⟨b, 0, none⟩), .int .i64 bound, .func (.func 29) #[] #[]] w fun e w' => ∃ v, ∃ L : List Tb, e = .returned v ∧ (∀ x ∈ L, NewT (fun k => w.heap.size ≤ k ∧ v.ownBlock ≠ some k) w' x) ∧ L.length ≤ lenO st ∧ Got (decM bound decT) st (L.map treeT) ∧ RdO w' b (nxt (decM bound decT) st) ∧ w'.ownsRow w.heap.size 39 4 v L.length (L.flatMap Tb.cs) ∧ w.grownBy w' (some b) := by
  have hbl := h.lt
  go_enter Try.func28, Try.ntmps28
  go_wp2_with fail
  refine (oM_any b bound st _ h hl).mono ?_
  rintro e w1 ⟨n, rfl, hn, hz, kN, h1, g1⟩
  have lN := len_N bound st
  go_wp2_with fail
  go_loopw [7, 11] (fun v i wr => ∃ L : List Tb, ∃ sK : Option (List UInt8), L.length ≤ n ∧ i = .int .i64 (L.length : Int) ∧ (∀ x ∈ L, NewT (fun k => w.heap.size ≤ k ∧ v.ownBlock ≠ some k) wr x) ∧ Inv decT (nxt (decN bound) st) (L.map treeT) sK ∧ lenO sK ≤ lenO st ∧ RdO wr b sK ∧ wr.ownsRow w.heap.size 39 4 v L.length (L.flatMap Tb.cs) ∧ w.grownBy wr (some b)) (fun _ i _ => n - (intOf i).toNat)
  case atStart => exact ⟨[], nxt (decN bound) st, by simp, rfl, by simp, inv_zero _ _, lN, h1, World.ownsRow_nil _ _ _ 4, g1⟩
  case round =>
    clear h1 g1
    obtain ⟨L, sK, hLn, rfl, hok, hI, hlK, hR, hown, hg⟩ := hrel
    by_cases hlt : L.length < n
    · go_wp2_with fail
      refine (takeT_any b sK _ hR (by omega)).mono ?_
      rintro e w2 ⟨x, rfl, hx, kc, h2, g2⟩
      have hown2 := own_keep2 hown g2 (by omega)
      have hg2 := grownBy_tr hg g2
      have hI2 := inv_succ hI kc
      have hlC := len_T sK
      have hapart : ∀ g, u7.ownBlock = some g → w.heap.size ≤ g := fun g hg => (World.ownsRow.lt hown2 g hg).1
      have hrow : ∀ g, u7.ownBlock = some g → g < wr.heap.size := fun g hg => (World.ownsRow.lt hown g hg).2
      have hle := hg2.size
      have hle1 := hg.size
      have hok2 : ∀ y ∈ L ++ [x], NewT (fun k => w.heap.size ≤ k ∧ u7.ownBlock ≠ some k) w2 y := by
        intro y hy
        rcases List.mem_append.1 hy with k | k
        · exact (hok y k).keep g2.size (fun c hc hlc => g2.block c hlc (fun e => by injection e; have := hc.1; omega)) (fun c hc _ => hc)
        · rw [List.mem_singleton] at k; subst k
          exact hx.keep (Nat.le_refl _) (fun _ _ _ => rfl) (fun c hc _ => ⟨by omega, fun e => by have := hrow c e; omega⟩)
      have HI2 := Lib.hid hI2
      have HK2 := Lib.hid hok2
      clear hown hg g2 hI hI2 kc hR hok hok2
      obtain ⟨nm, ow, cA, cn, cc, cols, eA, en, ec, chk⟩ := x
      have hvx : (⟨nm, ow, cA, cn, cc, cols, eA, en, ec, chk⟩ : Tb).val = .agg #[.string ⟨nm.toArray⟩, .int .i64 ow, .slice cA cn cc, .slice eA en ec] := rfl
      rw [hvx]
      clear hvx hx
      go_wp2_with (at_builtin; (refine wp_append1 rfl (.tmp 13) (.tmp 17) 22 rfl 39 4 72 _ Try.underlying22 info_table rfl (by omega) hown2 #[.string ⟨nm.toArray⟩, .int .i64 ow, .slice cA cn cc, .slice eA en ec] 39 rfl rfl rfl rfl ?c1 (by omega) (by omega) hle ?_))
      case c1 => exact ⟨rfl, rfl, rfl, rfl⟩
      intro g cap w5 ho5 hg5 hlt5
      have h5 : RdO w5 b (nxt decT sK) := At.grown h2 hg5.grown (fun e => by have := hapart b e.symm; omega)
      have hg6 := grown_own hg2 hg5.grown hapart
      have HO5 := Lib.hid ho5
      have hok5 : ∀ y ∈ L ++ [(⟨nm, ow, cA, cn, cc, cols, eA, en, ec, chk⟩ : Tb)], NewT (fun k => w.heap.size ≤ k ∧ (Value.slice (some ⟨g, 0, none⟩) (L.length + 1) cap).ownBlock ≠ some k) w5 y := fun y hy =>
        (HK2.out y hy).keep hg5.grown.size (fun c hc hlc => hg5.grown.block c hlc (fun e => hc.2 e.symm)) (fun c hc hlc => ⟨hc.1, fun e => by
          rcases hg5.lies c e with q | q
          · exact hc.2 q
          · omega⟩)
      have HK5 := Lib.hid hok5
      clear ho5 hg5 hg2 hown2 h2 hapart hok5
      go_wp2_with fail
      refine ⟨⟨L ++ [(⟨nm, ow, cA, cn, cc, cols, eA, en, ec, chk⟩ : Tb)], nxt decT sK, by simp; omega, by rw [List.length_append]; go_num, HK5.out, by rw [List.map_append]; exact HI2.out, by omega, h5, ?_, hg6⟩, by simp [intOf]; omega⟩
      rw [List.flatMap_append, List.length_append]; exact HO5.out
    · obtain hn2 : L.length = n := by omega
      have hE := inv_end kN hI (by rw [List.length_map]; exact hn2)
      go_wp2_with fail
      go_ret
      exact ⟨_, L, rfl, hok, by omega, hE.1, by rw [hE.2]; exact hR, hown, hg⟩
end Go.Proofs.Ytlkeagfmlcbogaa
