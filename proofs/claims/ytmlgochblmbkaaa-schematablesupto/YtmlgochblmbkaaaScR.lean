/- The walks of copyTable and Find. -/
import Derived.Test.YtmlgochblmbkaaaScQ
namespace Go.Proofs.Ytmlgochblmbkaaa
open Go.RowKit

theorem RowC.of_own {w : World} {base : Nat} {v : Value} {n : Nat} {cs : List Co} (h : w.ownsRow base 46 6 v n (cs.flatMap Co.cs)) (hn : cs.length = n) (hok : ∀ c ∈ cs, c.Ok) :
    ∃ A c, v = .slice A n c ∧ RowC w A n cs ∧ (0 < n → ∃ g, A = some ⟨g, 0, none⟩ ∧ base ≤ g ∧ g < w.heap.size) := by
  obtain ⟨A, c, rfl, hc⟩ := own_cells Co.cs default (fun _ => rfl) cs h hn
  refine ⟨A, c, rfl, ⟨hn, hok, fun h0 => ?_⟩, fun h0 => ?_⟩
  · obtain ⟨g, e1, e2, e3, e4⟩ := hc h0
    refine ⟨g, 0, e1, e3, fun j hj => ?_⟩
    rw [Nat.zero_add]
    exact ⟨e4 j hj 0 (by omega), e4 j hj 1 (by omega), e4 j hj 2 (by omega), e4 j hj 3 (by omega), e4 j hj 4 (by omega), e4 j hj 5 (by omega)⟩
  · obtain ⟨g, e1, e2, e3, e4⟩ := hc h0
    exact ⟨g, e1, e2, e3⟩
theorem RowC.move {w w' : World} {A : Option Addr} {n base : Nat} {cs : List Co} (h : RowC w A n cs) (hA : 0 < n → ∃ g, A = some ⟨g, 0, none⟩ ∧ base ≤ g ∧ g < w.heap.size) (hs : w.heap.size ≤ w'.heap.size) (hk : ∀ b, base ≤ b → b < w.heap.size → w'.heap[b]? = w.heap[b]?) : RowC w' A n cs :=
  ⟨h.1, h.2.1, fun hn => by
    obtain ⟨b, off, e1, e2, e3⟩ := h.2.2 hn
    obtain ⟨g, f1, f2, f3⟩ := hA hn
    rw [e1] at f1
    have hbg : b = g := by injection f1 with f1; injection f1
    subst hbg
    exact ⟨b, off, e1, Nat.lt_of_lt_of_le e2 hs, fun j hj => (e3 j hj).keep fun i => World.cell?_of_block (a := ⟨b, i, none⟩) (hk b f2 f3)⟩⟩

set_option maxRecDepth 100000 in
set_option maxHeartbeats 3200000 in
theorem copyT_any (t : Tb) (w : World) (ht : InT w t) (hw : wtT t ≤ 1048576) :
    Calls Try.prog 27 #[t.val] w fun e w' => ∃ o : Tb, e = .returned o.val ∧ (∀ w'', w'.heap.size ≤ w''.heap.size → (∀ b, w.heap.size ≤ b → b < w'.heap.size → w''.heap[b]? = w'.heap[b]?) → InT w'' o) ∧ simT o t ∧ Below w.heap.size w w' := by
  have hown := ht.owner
  have hname := ht.name
  have hcm := ht.cmax
  have hem := ht.emax
  have hrc := ht.cols
  have hre := ht.chk
  clear ht
  obtain ⟨nm, ow, cA, cn, ccap, cols, eA, en, ecap, chk⟩ := t
  simp only at hown hname hcm hem hrc hre
  have hcn : cn ≤ 1048576 := by
    have hone : cn ≤ sumN cn (fun i => wtC (cols.getD i default)) := by
      have : ∀ n (f : Nat → Nat), (∀ i, 1 ≤ f i) → n ≤ sumN n f := fun n f hf => by
        induction n with
        | zero => omega
        | succ n ih => rw [sumN_succ]; have := hf n; omega
      exact this _ _ fun i => by unfold wtC; omega
    unfold wtT at hw
    simp only at hw
    omega
  have hwx : wtE (.mk 0 0 ⟨0, 0, []⟩ eA en ecap chk) ≤ 2000000 := by
    rw [wtE]
    unfold wtT at hw
    simp only [List.length_nil] at hw ⊢
    omega
  have hinX : ∀ w1, Below w.heap.size w w1 → InE w1 (.mk 0 0 ⟨0, 0, []⟩ eA en ecap chk) := fun w1 b1 => by
    rw [InE]
    exact ⟨by unfold I64; decide, by unfold I64; decide, ⟨by unfold I64; decide, by unfold I64; decide, by unfold maxLen; decide⟩, hem, hre.below b1⟩
  have hcX := fun w1 b1 => copyX_any (.mk 0 0 ⟨0, 0, []⟩ eA en ecap chk) w1 (hinX w1 b1) hwx
  simp only [Ex.A, Ex.n, Ex.cap, Ex.withArgs, Ex.op, Ex.col, Ex.v] at hcX
  clear hinX hwx hw
  simp only [Tb.val]
  obtain ⟨W, hW⟩ : ∃ W, (w.alloc (.cells #[.string ⟨nm.toArray⟩, .int .i64 ow, .slice cA cn ccap, .slice eA en ecap] 25)).alloc
    (.cells #[.string ⟨#[]⟩, .int .i64 0, .slice none 0 0, .slice none 0 0] 25) = W := ⟨_, rfl⟩
  have b3 : Below w.heap.size w W := by
    rw [← hW]
    have b0 := below_box w (.cells #[.string ⟨nm.toArray⟩, .int .i64 ow, .slice cA cn ccap, .slice eA en ecap] 25)
    exact b0.alloc b0.size _
  have aB : At W w.heap.size 25 #[.string ⟨nm.toArray⟩, .int .i64 ow, .slice cA cn ccap, .slice eA en ecap] := by
    rw [← hW]; exact (At.fresh _ _ _).alloc _
  have aR : At W (w.heap.size + 1) 25 #[.string ⟨#[]⟩, .int .i64 0, .slice none 0 0, .slice none 0 0] := by
    rw [← hW]
    have := At.fresh (w.alloc (.cells #[.string ⟨nm.toArray⟩, .int .i64 ow, .slice cA cn ccap, .slice eA en ecap] 25)) 25 #[.string ⟨#[]⟩, .int .i64 0, .slice none 0 0, .slice none 0 0]
    simp only [World.size_alloc] at this
    exact this
  have hsz : W.heap.size = w.heap.size + 1 + 1 := by rw [← hW]; simp
  have hWc := Lib.hid hW
  clear hW
  have hrcW := hrc.below b3
  have hcl := cloneC_any cA cn ccap cols W hrc.1 (by omega) (fun h0 => by
    obtain ⟨b, off, e1, e2, e3⟩ := hrcW.2.2 h0
    refine ⟨b, off, e1, fun j hj i v hv => ?_⟩
    obtain ⟨c0, c1, c2, c3, c4, c5⟩ := e3 j hj
    match i, hv with
    | 0, hv => injection hv with hv; subst hv; exact c0
    | 1, hv => injection hv with hv; subst hv; exact c1
    | 2, hv => injection hv with hv; subst hv; exact c2
    | 3, hv => injection hv with hv; subst hv; exact c3
    | 4, hv => injection hv with hv; subst hv; exact c4
    | 5, hv => injection hv with hv; subst hv; exact c5
    | i + 6, hv => simp [Co.cs] at hv)
  go_enter Try.func27, Try.ntmps27
  go_wp2_with fail
  rw [hWc.out]
  clear hWc
  refine hcl.mono ?_
  rintro en2 w2 ⟨v, rfl, hown2, b2⟩
  obtain ⟨A2, c2, rfl, hC2, hC2g⟩ := RowC.of_own hown2 hrc.1 hrc.2.1
  have aB2 := aB.below b2 aB.lt
  have aR2 := aR.below b2 aR.lt
  have hb2 := below_in b3 b2
  clear hcl hown2 hrc hrcW aB aR
  obtain ⟨t0, t1, t2, t3, z0, z1, z2, z3⟩ := aB2.four
  have aB3 := aB2.put 2 (.slice A2 cn c2)
  have aR3 := aR2.elsewhere (p := ⟨w.heap.size, 2, none⟩) (by simp) (.slice A2 cn c2)
  have hb3 := hb2.setCell (p := ⟨w.heap.size, 2, none⟩) (Nat.le_refl _) (.slice A2 cn c2)
  have hs3 : (w2.setCell ⟨w.heap.size, 2, none⟩ (.slice A2 cn c2)).heap.size = w2.heap.size := by simp [World.setCell]
  have hC3 := hC2.move (w' := w2.setCell ⟨w.heap.size, 2, none⟩ (.slice A2 cn c2)) hC2g (by omega) (fun b hb _ => Below.heap_setCell _ _ _ _ (fun e : b = w.heap.size => by omega))
  have hC3g : 0 < cn → ∃ g, A2 = some ⟨g, 0, none⟩ ∧ W.heap.size ≤ g ∧ g < (w2.setCell ⟨w.heap.size, 2, none⟩ (.slice A2 cn c2)).heap.size := fun h => by obtain ⟨g, e1, e2, e3⟩ := hC2g h; exact ⟨g, e1, e2, by omega⟩
  have hcX3 := hcX _ hb3
  have hs2 := b2.size
  clear hcX hC2 hC2g aR2 aB2
  go_wp2_with fail
  generalize w2.setCell ⟨w.heap.size, 2, none⟩ (.slice A2 cn c2) = W3 at *
  refine hcX3.mono ?_
  rintro en4 w4 ⟨A4, c4, arg4, rfl, hrow4, hsim4, b4⟩
  have aB4 := aB3.below b4 aB3.lt
  have aR4 := aR3.below b4 aR3.lt
  have hb4 := below_in hb3 b4
  have hC4 := hC3.below b4
  have hC4g : 0 < cn → ∃ g, A2 = some ⟨g, 0, none⟩ ∧ W.heap.size ≤ g ∧ g < w4.heap.size := fun h => by obtain ⟨g, e1, e2, e3⟩ := hC3g h; exact ⟨g, e1, e2, Nat.lt_of_lt_of_le e3 b4.size⟩
  have hs4 := b4.size
  clear t0 t1 t2 t3 z0 z1 z2 z3
  obtain ⟨t0, t1, t2, t3, z0, z1, z2, z3⟩ := (show At w4 w.heap.size 25 #[.string ⟨nm.toArray⟩, .int .i64 ow, .slice A2 cn c2, .slice eA en ecap] from aB4).four
  obtain ⟨r0, r1, r2, r3, y0, y1, y2, y3⟩ := aR4.four
  have aR5 := aR4.elsewhere (p := ⟨w.heap.size, 3, none⟩) (by simp) (.slice A4 en c4)
  have hb5 := hb4.setCell (p := ⟨w.heap.size, 3, none⟩) (Nat.le_refl _) (.slice A4 en c4)
  have hs5 : (w4.setCell ⟨w.heap.size, 3, none⟩ (.slice A4 en c4)).heap.size = w4.heap.size := by simp [World.setCell]
  have hC5 := hC4.move (w' := w4.setCell ⟨w.heap.size, 3, none⟩ (.slice A4 en c4)) hC4g (by omega) (fun b hb _ => Below.heap_setCell _ _ _ _ (fun e : b = w.heap.size => by omega))
  have hR5 : RowP (fun b => W.heap.size ≤ b) (w4.setCell ⟨w.heap.size, 3, none⟩ (.slice A4 en c4)) A4 en arg4 := hrow4.keep (by omega) (fun b hb _ => Below.heap_setCell _ _ _ _ (fun e : b = w.heap.size => by
    have h9 : W3.heap.size ≤ b := hb
    omega)) (fun b hb => by
    have h9 : W3.heap.size ≤ b := hb
    show W.heap.size ≤ b
    omega)
  have hC5g : 0 < cn → ∃ g, A2 = some ⟨g, 0, none⟩ ∧ W.heap.size ≤ g ∧ g < (w4.setCell ⟨w.heap.size, 3, none⟩ (.slice A4 en c4)).heap.size := fun h => by obtain ⟨g, e1, e2, e3⟩ := hC4g h; exact ⟨g, e1, e2, by omega⟩
  clear hcX3 hC3 hC3g hC4 hC4g aR3 aB3 aB4 aR4 hrow4 hs4 b4 hs5
  go_wp2_with fail
  generalize w4.setCell ⟨w.heap.size, 3, none⟩ (.slice A4 en c4) = W5 at *
  obtain ⟨q0, q1, q2, q3, -⟩ := aR5.four
  have hfin := fun x y z q => below_set4 (g := w.heap.size + 1) hb5 (by omega) x y z q
  have hsf : ∀ x y z q, ((((W5.setCell ⟨w.heap.size + 1, 0, none⟩ x).setCell ⟨w.heap.size + 1, 1, none⟩ y).setCell ⟨w.heap.size + 1, 2, none⟩ z).setCell ⟨w.heap.size + 1, 3, none⟩ q).heap.size = W5.heap.size := fun x y z q => by simp [World.setCell]
  have hkf : ∀ x y z q b, W.heap.size ≤ b → ((((W5.setCell ⟨w.heap.size + 1, 0, none⟩ x).setCell ⟨w.heap.size + 1, 1, none⟩ y).setCell ⟨w.heap.size + 1, 2, none⟩ z).setCell ⟨w.heap.size + 1, 3, none⟩ q).heap[b]? = W5.heap[b]? := fun x y z q b hb =>
    (Below.heap_setCell _ _ _ _ (fun e : b = w.heap.size + 1 => by omega)).trans ((Below.heap_setCell _ _ _ _ (fun e : b = w.heap.size + 1 => by omega)).trans ((Below.heap_setCell _ _ _ _ (fun e : b = w.heap.size + 1 => by omega)).trans (Below.heap_setCell _ _ _ _ (fun e : b = w.heap.size + 1 => by omega))))
  refine bodyPost_ret (v := (⟨nm, ow, A2, cn, c2, cols, A4, en, c4, arg4⟩ : Tb).val) (by simp [results, Try.results27, go_sem, Tb.val, q0, q1, q2, q3]) rfl ⟨⟨nm, ow, A2, cn, c2, cols, A4, en, c4, arg4⟩, rfl, ?_, ?_, hfin _ _ _ _⟩
  · intro w'' hs hk
    rw [hsf] at hs hk
    refine ⟨hown, hname, hcm, hem, hC5.move hC5g hs (fun b hb hlt => (hk b (by omega) hlt).trans (hkf _ _ _ _ b hb)), ?_⟩
    exact (hR5.keep (q := fun _ => True) hs (fun b hb hlt => by
      have h9 : W.heap.size ≤ b := hb
      exact (hk b (by omega) hlt).trans (hkf _ _ _ _ b hb)) (fun _ _ => trivial)).rowE
  · rw [simE] at hsim4
    exact ⟨rfl, rfl, rfl, rfl, rfl, fun j hj => (hsim4.2.2.2.2 j hj).symm⟩
end Go.Proofs.Ytmlgochblmbkaaa
