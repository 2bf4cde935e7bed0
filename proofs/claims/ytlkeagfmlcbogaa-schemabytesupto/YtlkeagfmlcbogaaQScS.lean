/- Expressions alike; the walks of sameExpr and SameTable where they are. -/
import Derived.Test.YtlkeagfmlcbogaaQScL
import Derived.StillTailTactics
namespace Go.Proofs.Ytlkeagfmlcbogaa
open Go.RowKit

/-- Alike: the same but for where they lie. -/
def simE : Ex → Ex → Prop
  | .nil, .nil => True
  | .mk op col v _ n _ arg, .mk op' col' v' _ n' _ arg' => op = op' ∧ col = col' ∧ v = v' ∧ n = n' ∧ ∀ j, j < n → simE (arg j) (arg' j)
  | _, _ => False
theorem simE.symm : ∀ {a b : Ex}, simE a b → simE b a
  | .nil, .nil, h => h
  | .mk _ _ _ _ _ _ arg, .mk _ _ _ _ _ _ arg', h => by
    rw [simE] at h ⊢
    obtain ⟨rfl, rfl, rfl, rfl, h5⟩ := h
    exact ⟨rfl, rfl, rfl, rfl, fun j hj => (h5 j hj).symm⟩
  | .nil, .mk _ _ _ _ _ _ _, h => by simp [simE] at h
  | .mk _ _ _ _ _ _ _, .nil, h => by simp [simE] at h
structure simT (a b : Tb) : Prop where
  name : a.name = b.name
  owner : a.owner = b.owner
  cn : a.cn = b.cn
  cols : a.cols = b.cols
  en : a.en = b.en
  chk : ∀ j, j < a.en → simE (a.chk j) (b.chk j)

set_option maxRecDepth 100000 in
set_option maxHeartbeats 3200000 in
theorem sameE_any (a : Ex) : ∀ (b : Ex) (w : World), InE w a → InE w b → simE a b → Calls Try.prog 60 #[a.val, b.val] w fun e w' => e = .returned (.bool true) ∧ Below w.heap.size w w' := by
  induction a with
  | nil => intro b w h; exact h.elim
  | mk op col v A n cap arg ih =>
    intro b w ha hb hs
    cases b with
    | nil => simp [simE] at hs
    | mk op' col' v' A' n' cap' arg' =>
    rw [simE] at hs
    obtain ⟨rfl, rfl, rfl, rfl, hsim⟩ := hs
    rw [InE] at ha hb
    obtain ⟨-, -, hv, hn, harg⟩ := ha
    obtain ⟨-, -, -, -, harg'⟩ := hb
    unfold maxLen at hn
    obtain ⟨vk, vn, vt⟩ := v
    clear hv
    simp only [Ex.val, Ex.op, Ex.col, Ex.v, Ex.A, Ex.n, Ex.cap]
    obtain ⟨W, hW⟩ : ∃ W, (w.alloc (.cells #[.int .i64 op, .int .i64 col, .int .i64 vk, .int .i64 vn, .string ⟨vt.toArray⟩, .slice A n cap] 45)).alloc
      (.cells #[.int .i64 op, .int .i64 col, .int .i64 vk, .int .i64 vn, .string ⟨vt.toArray⟩, .slice A' n cap'] 45) = W := ⟨_, rfl⟩
    have b3 : Below w.heap.size w W := by
      rw [← hW]
      have b0 := below_box w (.cells #[.int .i64 op, .int .i64 col, .int .i64 vk, .int .i64 vn, .string ⟨vt.toArray⟩, .slice A n cap] 45)
      exact b0.alloc b0.size _
    have aX : At W w.heap.size 45 #[.int .i64 op, .int .i64 col, .int .i64 vk, .int .i64 vn, .string ⟨vt.toArray⟩, .slice A n cap] := by
      rw [← hW]; exact (At.fresh _ _ _).alloc _
    have aY : At W (w.heap.size + 1) 45 #[.int .i64 op, .int .i64 col, .int .i64 vk, .int .i64 vn, .string ⟨vt.toArray⟩, .slice A' n cap'] := by
      rw [← hW]
      have := At.fresh (w.alloc (.cells #[.int .i64 op, .int .i64 col, .int .i64 vk, .int .i64 vn, .string ⟨vt.toArray⟩, .slice A n cap] 45)) 45 #[.int .i64 op, .int .i64 col, .int .i64 vk, .int .i64 vn, .string ⟨vt.toArray⟩, .slice A' n cap']
      simp only [World.size_alloc] at this
      exact this
    have hWc := Lib.hid hW
    clear hW
    go_enter Try.func60, Try.ntmps60
    go_wp2_with fail
    rw [hWc.out]
    clear hWc
    go_loopw [37] (fun i wr => ∃ k : Nat, k ≤ n ∧ i = .int .i64 k ∧ Below W.heap.size W wr) (fun i _ => n - (intOf i).toNat)
    case atStart => exact ⟨0, by omega, rfl, Below.refl _ _⟩
    case round =>
      obtain ⟨k, hk, rfl, hbr⟩ := hrel
      have hbw := below_in b3 hbr
      by_cases hlt : k < n
      · obtain ⟨b, off, rfl, hbl, hcell⟩ := harg (by omega)
        obtain ⟨b', off', rfl, hbl', hcell'⟩ := harg' (by omega)
        obtain ⟨x0, x1, x2, x3, x4, x5⟩ := (hcell k hlt).1.keep fun i => hbw.cell (p := ⟨b, i, none⟩) hbl
        obtain ⟨y0, y1, y2, y3, y4, y5⟩ := (hcell' k hlt).1.keep fun i => hbw.cell (p := ⟨b', i, none⟩) hbl'
        have hi := (hcell k hlt).2.below hbw
        have hi' := (hcell' k hlt).2.below hbw
        have hc := fun w' (b' : Below wr.heap.size wr w') => ih k (arg' k) w' (hi.below b') (hi'.below b') (hsim k hlt)
        have a5 : wr.cell? ⟨w.heap.size, 5, none⟩ = some (.slice (some ⟨b, off, none⟩) n cap) := (aX.below hbr aX.lt).cell 5
        have a5' : wr.cell? ⟨w.heap.size + 1, 5, none⟩ = some (.slice (some ⟨b', off', none⟩) n cap') := (aY.below hbr aY.lt).cell 5
        have hki : (k : Int) < (n : Int) := by omega
        unfold Ex.val at hc
        clear ih hcell hcell' harg harg' hi hi' hsim
        go_wp2_with fail
        go_still_tail 10, (by kernel_rfl)
        change wpList _ _ _ _ _ wr.drew
        have hd : Below wr.heap.size wr wr.drew := (Below.refl _ _).drew
        go_wp2_with fail
        refine (hc _ hd).mono ?_
        rintro e w2 ⟨rfl, b2⟩
        go_wp2_with fail
        exact ⟨⟨k + 1, by omega, by go_num, below_in hbr (below_in hd b2)⟩, by simp [intOf]; omega⟩
      · go_wp2_with fail
        go_ret
        exact ⟨rfl, hbw⟩

set_option maxRecDepth 100000 in
set_option maxHeartbeats 3200000 in
theorem sameT_any (a b : Tb) (w : World) (ha : InT w a) (hb : InT w b) (hs : simT a b) : Calls Try.prog 34 #[a.val, b.val] w fun e w' => e = .returned (.bool true) ∧ Below w.heap.size w w' := by
  obtain ⟨nm, ow, A, n, cap, cs, eA, en, ecap, chk⟩ := a
  obtain ⟨nm', ow', A', n', cap', cs', eA', en', ecap', chk'⟩ := b
  obtain ⟨h1, h2, h3, h4, h5, hsim⟩ := hs
  simp only at h1 h2 h3 h4 h5 hsim
  subst h1 h2 h3 h4 h5
  have hrc := ha.cols
  have hrc' := hb.cols
  have hre := ha.chk
  have hre' := hb.chk
  have hn := ha.cmax
  have hen := ha.emax
  unfold maxLen at hn hen
  simp only at hrc hrc' hre hre' hn hen
  clear ha hb
  simp only [Tb.val]
  obtain ⟨W, hW⟩ : ∃ W, (w.alloc (.cells #[.string ⟨nm.toArray⟩, .int .i64 ow, .slice A n cap, .slice eA en ecap] 39)).alloc
    (.cells #[.string ⟨nm.toArray⟩, .int .i64 ow, .slice A' n cap', .slice eA' en ecap'] 39) = W := ⟨_, rfl⟩
  have b3 : Below w.heap.size w W := by
    rw [← hW]
    have b0 := below_box w (.cells #[.string ⟨nm.toArray⟩, .int .i64 ow, .slice A n cap, .slice eA en ecap] 39)
    exact b0.alloc b0.size _
  have aX : At W w.heap.size 39 #[.string ⟨nm.toArray⟩, .int .i64 ow, .slice A n cap, .slice eA en ecap] := by
    rw [← hW]; exact (At.fresh _ _ _).alloc _
  have aY : At W (w.heap.size + 1) 39 #[.string ⟨nm.toArray⟩, .int .i64 ow, .slice A' n cap', .slice eA' en ecap'] := by
    rw [← hW]
    have := At.fresh (w.alloc (.cells #[.string ⟨nm.toArray⟩, .int .i64 ow, .slice A n cap, .slice eA en ecap] 39)) 39 #[.string ⟨nm.toArray⟩, .int .i64 ow, .slice A' n cap', .slice eA' en ecap']
    simp only [World.size_alloc] at this
    exact this
  have hWc := Lib.hid hW
  clear hW
  go_enter Try.func34, Try.ntmps34
  go_wp2_with fail
  rw [hWc.out]
  clear hWc
  go_loopw [40] (fun i wr => ∃ k : Nat, k ≤ n ∧ i = .int .i64 k ∧ Below W.heap.size W wr) (fun i _ => n - (intOf i).toNat)
  case atStart => exact ⟨0, by omega, rfl, Below.refl _ _⟩
  case round =>
    obtain ⟨k, hk, rfl, hbr⟩ := hrel
    have hbw := below_in b3 hbr
    by_cases hlt : k < n
    · obtain ⟨b, off, rfl, hbl, hcell⟩ := hrc.2.2 (by omega)
      obtain ⟨b', off', rfl, hbl', hcell'⟩ := hrc'.2.2 (by omega)
      have hx := (hcell k hlt).keep fun i => hbw.cell (p := ⟨b, i, none⟩) hbl
      have hy := (hcell' k hlt).keep fun i => hbw.cell (p := ⟨b', i, none⟩) hbl'
      generalize cs.getD k default = c at *
      obtain ⟨x0, x1, x2, x3, x4, x5⟩ := hx
      obtain ⟨y0, y1, y2, y3, y4, y5⟩ := hy
      have a5 : wr.cell? ⟨w.heap.size, 2, none⟩ = some (.slice (some ⟨b, off, none⟩) n cap) := (aX.below hbr aX.lt).cell 2
      have a5' : wr.cell? ⟨w.heap.size + 1, 2, none⟩ = some (.slice (some ⟨b', off', none⟩) n cap') := (aY.below hbr aY.lt).cell 2
      have hki : (k : Int) < (n : Int) := by omega
      clear hcell hcell' hre hre' hsim
      go_wp2_with fail
      go_quiet (fail)
      go_wp2_with fail
      exact ⟨⟨k + 1, by omega, by go_num, below_nq hbr _⟩, by simp [intOf]; omega⟩
    · have aX2 := aX.below hbr aX.lt
      have aY2 := aY.below hbr aY.lt
      have a3 : wr.cell? ⟨w.heap.size, 3, none⟩ = some (.slice eA en ecap) := aX2.cell 3
      clear hrc hrc'
      go_wp2_with fail
      go_loopw [58] (fun i wx => ∃ k : Nat, k ≤ en ∧ i = .int .i64 k ∧ Below wr.heap.size wr wx) (fun i _ => en - (intOf i).toNat)
      case atStart => exact ⟨0, by omega, rfl, Below.refl _ _⟩
      case round =>
        obtain ⟨k2, hk2, rfl, hbx⟩ := hrel
        have hbw2 := below_in hbw hbx
        by_cases hlt2 : k2 < en
        · obtain ⟨b, off, rfl, hbl, hcell⟩ := hre (by omega)
          obtain ⟨b', off', rfl, hbl', hcell'⟩ := hre' (by omega)
          obtain ⟨x0, x1, x2, x3, x4, x5⟩ := (hcell k2 hlt2).1.keep fun i => hbw2.cell (p := ⟨b, i, none⟩) hbl
          obtain ⟨y0, y1, y2, y3, y4, y5⟩ := (hcell' k2 hlt2).1.keep fun i => hbw2.cell (p := ⟨b', i, none⟩) hbl'
          have hi := (hcell k2 hlt2).2.below hbw2
          have hi' := (hcell' k2 hlt2).2.below hbw2
          have hc := fun w' (b' : Below wr.heap.size wr w') => sameE_any (chk k2) (chk' k2) w' (hi.below b') (hi'.below b') (hsim k2 hlt2)
          have a5 : wr.cell? ⟨w.heap.size, 3, none⟩ = some (.slice (some ⟨b, off, none⟩) en ecap) := (aX2.below hbx aX2.lt).cell 3
          have a5' : wr.cell? ⟨w.heap.size + 1, 3, none⟩ = some (.slice (some ⟨b', off', none⟩) en ecap') := (aY2.below hbx aY2.lt).cell 3
          have hki : (k2 : Int) < (en : Int) := by omega
          unfold Ex.val at hc
          clear hcell hcell' hre hre' hi hi' hsim
          go_wp2_with fail
          go_still_tail 10, (by kernel_rfl)
          change wpList _ _ _ _ _ wr.drew
          have hd : Below wr.heap.size wr wr.drew := (Below.refl _ _).drew
          go_wp2_with fail
          refine (hc _ hd).mono ?_
          rintro e w2 ⟨rfl, b2⟩
          go_wp2_with fail
          exact ⟨⟨k2 + 1, by omega, by go_num, below_in hbx (below_in hd b2)⟩, by simp [intOf]; omega⟩
        · go_wp2_with fail
          go_ret
          exact ⟨rfl, hbw2⟩
end Go.Proofs.Ytlkeagfmlcbogaa
