/- The walks of copyTable and Find. -/
/- takeTable. -/
/- takeList for tables. -/
/- schema.Read. -/
/- The walks of package pack's Writer. -/
/- The walk of the laws' function 'alive'. -/
import Derived.Test.YtnhalfdddcjicaaGreatQJan
import Derived.Test.YtnhalfdddcjicaaGreatQJab
namespace Go.Proofs.YtnhalfdddcjicaaGreat
open Go.RowKit

theorem RowC.of_own {w : World} {base : Nat} {v : Value} {n : Nat} {cs : List Co} (h : w.ownsRow base 54 6 v n (cs.flatMap Co.cs)) (hn : cs.length = n) (hok : ∀ c ∈ cs, c.Ok) :
    ∃ A c, v = .slice A n c ∧ RowC w A n cs ∧ (0 < n → ∃ g, A = some ⟨g, 0, none⟩ ∧ base ≤ g ∧ g < w.heap.size) := by
  obtain ⟨A, c, rfl, hc⟩ := own_cells Co.cs default (fun _ => rfl) cs h hn
  refine ⟨A, c, rfl, ⟨hn, hok, fun h0 => ?_⟩, fun h0 => ?_⟩
  · obtain ⟨g, e1, e2, e3, e4⟩ := hc h0
    refine ⟨g, 0, e1, e3, fun j hj => ?_⟩
    rw [Nat.zero_add]
    exact ⟨e4 j hj 0 (by omega), e4 j hj 1 (by omega), e4 j hj 2 (by omega), e4 j hj 3 (by omega), e4 j hj 4 (by omega), e4 j hj 5 (by omega)⟩
  · obtain ⟨g, e1, e2, e3, e4⟩ := hc h0
    exact ⟨g, e1, e2, e3⟩
theorem RowC.move {w w' : World} {A : Option Addr} {n base : Nat} {cs : List Co} (h : RowC w A n cs) (hA : 0 < n → ∃ g, A = some ⟨g, 0, none⟩ ∧ base ≤ g ∧ g < w.heap.size) (hs : w.heap.size ≤ w'.heap.size) (hk : ∀ b, base ≤ b → b < w.heap.size → w'.heap[b]? = w.heap[b]?) : RowC w' A n cs :=
  ⟨h.1, h.2.1, fun hn => by
    obtain ⟨b, off, e1, e2, e3⟩ := h.2.2 hn
    obtain ⟨g, f1, f2, f3⟩ := hA hn
    rw [e1] at f1
    have hbg : b = g := by injection f1 with f1; injection f1
    subst hbg
    exact ⟨b, off, e1, Nat.lt_of_lt_of_le e2 hs, fun j hj => (e3 j hj).keep fun i => World.cell?_of_block (a := ⟨b, i, none⟩) (hk b f2 f3)⟩⟩

set_option maxRecDepth 100000 in
set_option maxHeartbeats 3200000 in
theorem copyT_any (t : Tb) (w : World) (ht : InT w t) (hw : wtT t ≤ 1048576) :
    Calls Tryz.prog 97 #[t.val] w fun e w' => ∃ o : Tb, e = .returned o.val ∧ (∀ w'', w'.heap.size ≤ w''.heap.size → (∀ b, w.heap.size ≤ b → b < w'.heap.size → w''.heap[b]? = w'.heap[b]?) → InT w'' o) ∧ simT o t ∧ Below w.heap.size w w' := by
  have hown := ht.owner
  have hname := ht.name
  have hcm := ht.cmax
  have hem := ht.emax
  have hrc := ht.cols
  have hre := ht.chk
  clear ht
  obtain ⟨nm, ow, cA, cn, ccap, cols, eA, en, ecap, chk⟩ := t
  simp only at hown hname hcm hem hrc hre
  have hcn : cn ≤ 1048576 := by
    have hone : cn ≤ sumN cn (fun i => wtC (cols.getD i default)) := by
      have : ∀ n (f : Nat → Nat), (∀ i, 1 ≤ f i) → n ≤ sumN n f := fun n f hf => by
        induction n with
        | zero => omega
        | succ n ih => rw [sumN_succ]; have := hf n; omega
      exact this _ _ fun i => by unfold wtC; omega
    unfold wtT at hw
    simp only at hw
    omega
  have hwx : wtE (.mk 0 0 ⟨0, 0, []⟩ eA en ecap chk) ≤ 2000000 := by
    rw [wtE]
    unfold wtT at hw
    simp only [List.length_nil] at hw ⊢
    omega
  have hinX : ∀ w1, Below w.heap.size w w1 → InE w1 (.mk 0 0 ⟨0, 0, []⟩ eA en ecap chk) := fun w1 b1 => by
    rw [InE]
    exact ⟨by unfold I64; decide, by unfold I64; decide, ⟨by unfold I64; decide, by unfold I64; decide, by unfold maxLen; decide⟩, hem, hre.below b1⟩
  have hcX := fun w1 b1 => copyX_any (.mk 0 0 ⟨0, 0, []⟩ eA en ecap chk) w1 (hinX w1 b1) hwx
  simp only [Ex.A, Ex.n, Ex.cap, Ex.withArgs, Ex.op, Ex.col, Ex.v] at hcX
  clear hinX hwx hw
  simp only [Tb.val]
  obtain ⟨W, hW⟩ : ∃ W, (w.alloc (.cells #[.string ⟨nm.toArray⟩, .int .i64 ow, .slice cA cn ccap, .slice eA en ecap] 32)).alloc
    (.cells #[.string ⟨#[]⟩, .int .i64 0, .slice none 0 0, .slice none 0 0] 32) = W := ⟨_, rfl⟩
  have b3 : Below w.heap.size w W := by
    rw [← hW]
    have b0 := below_box w (.cells #[.string ⟨nm.toArray⟩, .int .i64 ow, .slice cA cn ccap, .slice eA en ecap] 32)
    exact b0.alloc b0.size _
  have aB : At W w.heap.size 32 #[.string ⟨nm.toArray⟩, .int .i64 ow, .slice cA cn ccap, .slice eA en ecap] := by
    rw [← hW]; exact (At.fresh _ _ _).alloc _
  have aR : At W (w.heap.size + 1) 32 #[.string ⟨#[]⟩, .int .i64 0, .slice none 0 0, .slice none 0 0] := by
    rw [← hW]
    have := At.fresh (w.alloc (.cells #[.string ⟨nm.toArray⟩, .int .i64 ow, .slice cA cn ccap, .slice eA en ecap] 32)) 32 #[.string ⟨#[]⟩, .int .i64 0, .slice none 0 0, .slice none 0 0]
    simp only [World.size_alloc] at this
    exact this
  have hsz : W.heap.size = w.heap.size + 1 + 1 := by rw [← hW]; simp
  have hWc := Lib.hid hW
  clear hW
  have hrcW := hrc.below b3
  have hcl := cloneC_any cA cn ccap cols W hrc.1 (by omega) (fun h0 => by
    obtain ⟨b, off, e1, e2, e3⟩ := hrcW.2.2 h0
    refine ⟨b, off, e1, fun j hj i v hv => ?_⟩
    obtain ⟨c0, c1, c2, c3, c4, c5⟩ := e3 j hj
    match i, hv with
    | 0, hv => injection hv with hv; subst hv; exact c0
    | 1, hv => injection hv with hv; subst hv; exact c1
    | 2, hv => injection hv with hv; subst hv; exact c2
    | 3, hv => injection hv with hv; subst hv; exact c3
    | 4, hv => injection hv with hv; subst hv; exact c4
    | 5, hv => injection hv with hv; subst hv; exact c5
    | i + 6, hv => simp [Co.cs] at hv)
  go_enter Tryz.func97, Tryz.ntmps97
  go_wp2_with fail
  rw [hWc.out]
  clear hWc
  refine hcl.mono ?_
  rintro en2 w2 ⟨v, rfl, hown2, b2⟩
  obtain ⟨A2, c2, rfl, hC2, hC2g⟩ := RowC.of_own hown2 hrc.1 hrc.2.1
  have aB2 := aB.below b2 aB.lt
  have aR2 := aR.below b2 aR.lt
  have hb2 := below_in b3 b2
  clear hcl hown2 hrc hrcW aB aR
  obtain ⟨t0, t1, t2, t3, z0, z1, z2, z3⟩ := aB2.four
  have aB3 := aB2.put 2 (.slice A2 cn c2)
  have aR3 := aR2.elsewhere (p := ⟨w.heap.size, 2, none⟩) (by simp) (.slice A2 cn c2)
  have hb3 := hb2.setCell (p := ⟨w.heap.size, 2, none⟩) (Nat.le_refl _) (.slice A2 cn c2)
  have hs3 : (w2.setCell ⟨w.heap.size, 2, none⟩ (.slice A2 cn c2)).heap.size = w2.heap.size := by simp [World.setCell]
  have hC3 := hC2.move (w' := w2.setCell ⟨w.heap.size, 2, none⟩ (.slice A2 cn c2)) hC2g (by omega) (fun b hb _ => Below.heap_setCell _ _ _ _ (fun e : b = w.heap.size => by omega))
  have hC3g : 0 < cn → ∃ g, A2 = some ⟨g, 0, none⟩ ∧ W.heap.size ≤ g ∧ g < (w2.setCell ⟨w.heap.size, 2, none⟩ (.slice A2 cn c2)).heap.size := fun h => by obtain ⟨g, e1, e2, e3⟩ := hC2g h; exact ⟨g, e1, e2, by omega⟩
  have hcX3 := hcX _ hb3
  have hs2 := b2.size
  clear hcX hC2 hC2g aR2 aB2
  go_wp2_with fail
  generalize w2.setCell ⟨w.heap.size, 2, none⟩ (.slice A2 cn c2) = W3 at *
  refine hcX3.mono ?_
  rintro en4 w4 ⟨A4, c4, arg4, rfl, hrow4, hsim4, b4⟩
  have aB4 := aB3.below b4 aB3.lt
  have aR4 := aR3.below b4 aR3.lt
  have hb4 := below_in hb3 b4
  have hC4 := hC3.below b4
  have hC4g : 0 < cn → ∃ g, A2 = some ⟨g, 0, none⟩ ∧ W.heap.size ≤ g ∧ g < w4.heap.size := fun h => by obtain ⟨g, e1, e2, e3⟩ := hC3g h; exact ⟨g, e1, e2, Nat.lt_of_lt_of_le e3 b4.size⟩
  have hs4 := b4.size
  clear t0 t1 t2 t3 z0 z1 z2 z3
  obtain ⟨t0, t1, t2, t3, z0, z1, z2, z3⟩ := (show At w4 w.heap.size 32 #[.string ⟨nm.toArray⟩, .int .i64 ow, .slice A2 cn c2, .slice eA en ecap] from aB4).four
  obtain ⟨r0, r1, r2, r3, y0, y1, y2, y3⟩ := aR4.four
  have aR5 := aR4.elsewhere (p := ⟨w.heap.size, 3, none⟩) (by simp) (.slice A4 en c4)
  have hb5 := hb4.setCell (p := ⟨w.heap.size, 3, none⟩) (Nat.le_refl _) (.slice A4 en c4)
  have hs5 : (w4.setCell ⟨w.heap.size, 3, none⟩ (.slice A4 en c4)).heap.size = w4.heap.size := by simp [World.setCell]
  have hC5 := hC4.move (w' := w4.setCell ⟨w.heap.size, 3, none⟩ (.slice A4 en c4)) hC4g (by omega) (fun b hb _ => Below.heap_setCell _ _ _ _ (fun e : b = w.heap.size => by omega))
  have hR5 : RowP (fun b => W.heap.size ≤ b) (w4.setCell ⟨w.heap.size, 3, none⟩ (.slice A4 en c4)) A4 en arg4 := hrow4.keep (by omega) (fun b hb _ => Below.heap_setCell _ _ _ _ (fun e : b = w.heap.size => by
    have h9 : W3.heap.size ≤ b := hb
    omega)) (fun b hb => by
    have h9 : W3.heap.size ≤ b := hb
    show W.heap.size ≤ b
    omega)
  have hC5g : 0 < cn → ∃ g, A2 = some ⟨g, 0, none⟩ ∧ W.heap.size ≤ g ∧ g < (w4.setCell ⟨w.heap.size, 3, none⟩ (.slice A4 en c4)).heap.size := fun h => by obtain ⟨g, e1, e2, e3⟩ := hC4g h; exact ⟨g, e1, e2, by omega⟩
  clear hcX3 hC3 hC3g hC4 hC4g aR3 aB3 aB4 aR4 hrow4 hs4 b4 hs5
  go_wp2_with fail
  generalize w4.setCell ⟨w.heap.size, 3, none⟩ (.slice A4 en c4) = W5 at *
  obtain ⟨q0, q1, q2, q3, -⟩ := aR5.four
  have hfin := fun x y z q => below_set4 (g := w.heap.size + 1) hb5 (by omega) x y z q
  have hsf : ∀ x y z q, ((((W5.setCell ⟨w.heap.size + 1, 0, none⟩ x).setCell ⟨w.heap.size + 1, 1, none⟩ y).setCell ⟨w.heap.size + 1, 2, none⟩ z).setCell ⟨w.heap.size + 1, 3, none⟩ q).heap.size = W5.heap.size := fun x y z q => by simp [World.setCell]
  have hkf : ∀ x y z q b, W.heap.size ≤ b → ((((W5.setCell ⟨w.heap.size + 1, 0, none⟩ x).setCell ⟨w.heap.size + 1, 1, none⟩ y).setCell ⟨w.heap.size + 1, 2, none⟩ z).setCell ⟨w.heap.size + 1, 3, none⟩ q).heap[b]? = W5.heap[b]? := fun x y z q b hb =>
    (Below.heap_setCell _ _ _ _ (fun e : b = w.heap.size + 1 => by omega)).trans ((Below.heap_setCell _ _ _ _ (fun e : b = w.heap.size + 1 => by omega)).trans ((Below.heap_setCell _ _ _ _ (fun e : b = w.heap.size + 1 => by omega)).trans (Below.heap_setCell _ _ _ _ (fun e : b = w.heap.size + 1 => by omega))))
  refine bodyPost_ret (v := (⟨nm, ow, A2, cn, c2, cols, A4, en, c4, arg4⟩ : Tb).val) (by simp [results, Tryz.results97, go_sem, Tb.val, q0, q1, q2, q3]) rfl ⟨⟨nm, ow, A2, cn, c2, cols, A4, en, c4, arg4⟩, rfl, ?_, ?_, hfin _ _ _ _⟩
  · intro w'' hs hk
    rw [hsf] at hs hk
    refine ⟨hown, hname, hcm, hem, hC5.move hC5g hs (fun b hb hlt => (hk b (by omega) hlt).trans (hkf _ _ _ _ b hb)), ?_⟩
    exact (hR5.keep (q := fun _ => True) hs (fun b hb hlt => by
      have h9 : W.heap.size ≤ b := hb
      exact (hk b (by omega) hlt).trans (hkf _ _ _ _ b hb)) (fun _ _ => trivial)).rowE
  · rw [simE] at hsim4
    exact ⟨rfl, rfl, rfl, rfl, rfl, fun j hj => (hsim4.2.2.2.2 j hj).symm⟩
end Go.Proofs.YtnhalfdddcjicaaGreat

namespace Go.Proofs.YtnhalfdddcjicaaGreat
open Go.RowKit

/-- A table in memory whose rows lie in chosen blocks. -/
structure NewT (p : Nat → Prop) (w : World) (t : Tb) : Prop where
  inT : InT w t
  colsAt : 0 < t.cn → ∃ g, t.cA = some ⟨g, 0, none⟩ ∧ p g ∧ g < w.heap.size
  chkAt : RowP p w t.eA t.en t.chk
theorem RowP.keep2 {p q : Nat → Prop} {w w' : World} {A : Option Addr} {n : Nat} {arg : Nat → Ex} (h : RowP p w A n arg) (hs : w.heap.size ≤ w'.heap.size) (hk : ∀ b, p b → b < w.heap.size → w'.heap[b]? = w.heap[b]?) (hq : ∀ b, p b → b < w.heap.size → q b) : RowP q w' A n arg := fun hn => by
  obtain ⟨b, off, e1, e0, e2, e3⟩ := h hn
  exact ⟨b, off, e1, hq b e0 e2, Nat.lt_of_lt_of_le e2 hs, fun j hj => ⟨(e3 j hj).1.keep fun i => World.cell?_of_block (a := ⟨b, i, none⟩) (hk b e0 e2), (e3 j hj).2.keep2 hs hk hq⟩⟩
theorem NewT.keep {p q : Nat → Prop} {w w' : World} {t : Tb} (h : NewT p w t) (hs : w.heap.size ≤ w'.heap.size) (hk : ∀ b, p b → b < w.heap.size → w'.heap[b]? = w.heap[b]?) (hq : ∀ b, p b → b < w.heap.size → q b) : NewT q w' t where
  inT := ⟨h.inT.owner, h.inT.name, h.inT.cmax, h.inT.emax, ⟨h.inT.cols.1, h.inT.cols.2.1, fun hn => by
    obtain ⟨b, off, e1, e2, e3⟩ := h.inT.cols.2.2 hn
    obtain ⟨g, f1, f2, f3⟩ := h.colsAt hn
    rw [e1] at f1
    have hbg : b = g := by injection f1 with f1; injection f1
    subst hbg
    exact ⟨b, off, e1, Nat.lt_of_lt_of_le e2 hs, fun j hj => (e3 j hj).keep fun i => World.cell?_of_block (a := ⟨b, i, none⟩) (hk b f2 f3)⟩⟩, (h.chkAt.keep2 hs hk hq).rowE⟩
  colsAt := fun hn => by
    obtain ⟨g, f1, f2, f3⟩ := h.colsAt hn
    exact ⟨g, f1, hq g f2 f3, Nat.lt_of_lt_of_le f3 hs⟩
  chkAt := h.chkAt.keep2 hs hk hq
/-- The table, wherever it lies. -/
def treeT (t : Tb) : Td := ⟨t.name, t.owner, t.cols, (List.range t.en).map fun j => treeE (t.chk j)⟩
theorem decT_nxt (st : Option (List UInt8)) : nxt decT st = nxt (decM 4 (decE 8)) (nxt (decM 6 decC) (nxt decI (nxt decS st))) := by
  cases st with
  | none => rfl
  | some l =>
    have hC : ∀ o : Option (Td × List UInt8), decT l = o → nxt decT (some l) = o.map (·.2) := fun o h => by unfold nxt; rw [Option.bind_some, h]
    unfold decT at hC
    cases h1 : decS l with
    | none => rw [nxt_none h1]; exact hC none (by rw [h1]; rfl)
    | some x1 =>
      obtain ⟨n, q1⟩ := x1
      rw [nxt_some h1]
      cases h2 : decI q1 with
      | none => rw [nxt_none h2]; exact hC none (by rw [h1, Option.bind_some]; simp only; rw [h2]; rfl)
      | some x2 =>
        obtain ⟨f, q2⟩ := x2
        rw [nxt_some h2]
        cases h3 : decM 6 decC q2 with
        | none => rw [nxt_none h3]; exact hC none (by rw [h1, Option.bind_some]; simp only; rw [h2, Option.bind_some]; simp only; rw [h3]; rfl)
        | some x3 =>
          obtain ⟨k, q3⟩ := x3
          rw [nxt_some h3]
          cases h4 : decM 4 (decE 8) q3 with
          | none => rw [nxt_none h4]; exact hC none (by rw [h1, Option.bind_some]; simp only; rw [h2, Option.bind_some]; simp only; rw [h3, Option.bind_some]; simp only; rw [h4]; rfl)
          | some x4 =>
            obtain ⟨a, q4⟩ := x4
            rw [nxt_some h4]
            exact hC (some (⟨n, f, k, a⟩, q4)) (by rw [h1, Option.bind_some]; simp only; rw [h2, Option.bind_some]; simp only; rw [h3, Option.bind_some]; simp only; rw [h4]; rfl)
theorem decT_got {st : Option (List UInt8)} {n : List UInt8} {f : Int} {k : List Co} {a : List Et} (g1 : Got decS st n) (g2 : Got decI (nxt decS st) f) (g3 : Got (decM 6 decC) (nxt decI (nxt decS st)) k) (g4 : Got (decM 4 (decE 8)) (nxt (decM 6 decC) (nxt decI (nxt decS st))) a) : Got decT st ⟨n, f, k, a⟩ := by
  cases st with
  | none => exact got_nil _ _
  | some l =>
    intro c r h
    rw [Option.bind_some] at h
    unfold decT at h
    simp only [Option.bind_eq_some_iff] at h
    obtain ⟨⟨n', q1⟩, h1, ⟨f', q2⟩, h2, ⟨k', q3⟩, h3, ⟨a', q4⟩, h4, h7⟩ := h
    injection h7 with h7; injection h7 with e1 e2
    subst e1
    dsimp only at *
    rw [nxt_some h1] at g2 g3 g4
    rw [nxt_some h2] at g3 g4
    rw [nxt_some h3] at g4
    rw [got_some g1 h1, got_some g2 h2, got_some g3 h3, got_some g4 h4]
theorem At.put4 {w : World} {g b : Nat} {t : TypeId} {cs : Array Value} (h : At w b t cs) (hne : b ≠ g) (x y z p : Value) : At ((((w.setCell ⟨g, 0, none⟩ x).setCell ⟨g, 1, none⟩ y).setCell ⟨g, 2, none⟩ z).setCell ⟨g, 3, none⟩ p) b t cs :=
  (h.put3 hne x y z).elsewhere (p := ⟨g, 3, none⟩) hne p
theorem set4_grown (w : World) (g : Nat) (x y z p : Value) : w.grownBy ((((w.setCell ⟨g, 0, none⟩ x).setCell ⟨g, 1, none⟩ y).setCell ⟨g, 2, none⟩ z).setCell ⟨g, 3, none⟩ p) (some g) :=
  grownBy_tr (grownBy_tr (grownBy_tr (grownBy_set _ _ _ _) (grownBy_set _ _ _ _)) (grownBy_set _ _ _ _)) (grownBy_set _ _ _ _)

end Go.Proofs.YtnhalfdddcjicaaGreat

namespace Go.Proofs.YtnhalfdddcjicaaGreat
open Go.RowKit

theorem len_T (st : Option (List UInt8)) : lenO (nxt decT st) ≤ lenO st := len_sound (fun _ _ _ hx => (decT_sound hx).1) st
theorem info_table : (Tryz.prog.info? 32).map (fun i => (i.zero, i.size, i.bytes)) = some (some (.agg #[.string ⟨#[]⟩, .int .i64 0, .slice none 0 0, .slice none 0 0]), 4, 72) := by kernel_rfl

end Go.Proofs.YtnhalfdddcjicaaGreat

namespace Go.Proofs.YtnhalfdddcjicaaGreat
open Go.RowKit

theorem rowT_own {w : World} {base n : Nat} {v : Value} {L : List Tb} {p : Nat → Prop} (h : w.ownsRow base 32 4 v n (L.flatMap Tb.cs)) (hn : L.length = n) (hx : ∀ x ∈ L, NewT p w x) :
    ∃ A c, v = .slice A n c ∧ (0 < n → ∃ g, A = some ⟨g, 0, none⟩ ∧ base ≤ g ∧ g < w.heap.size ∧ ∀ j, j < n → CellsT w g (0 + j * 4) (L.getD j default) ∧ NewT p w (L.getD j default)) := by
  obtain ⟨A, c, rfl, hc⟩ := own_cells Tb.cs default (fun _ => rfl) L h hn
  refine ⟨A, c, rfl, fun h0 => ?_⟩
  obtain ⟨g, e1, e2, e3, e4⟩ := hc h0
  refine ⟨g, e1, e2, e3, fun j hj => ⟨?_, hx _ ?_⟩⟩
  · have k := e4 j hj
    rw [Nat.zero_add]
    exact ⟨k 0 (by omega), k 1 (by omega), k 2 (by omega), k 3 (by omega)⟩
  · have hj' : j < L.length := by omega
    simp only [List.getD_eq_getElem?_getD, List.getElem?_eq_getElem hj', Option.getD_some]
    exact List.getElem_mem hj'
theorem rowG_own {w : World} {base n : Nat} {v : Value} {L : List Gr} (h : w.ownsRow base 50 3 v n (L.flatMap Gr.cs)) (hn : L.length = n) (hok : ∀ c ∈ L, okG c) :
    ∃ A c, v = .slice A n c ∧ RowG w A n L ∧ (0 < n → ∃ g, A = some ⟨g, 0, none⟩ ∧ base ≤ g ∧ g < w.heap.size) := by
  obtain ⟨A, c, rfl, hc⟩ := own_cells Gr.cs default (fun _ => rfl) L h hn
  refine ⟨A, c, rfl, ⟨hn, fun c hc => ⟨(hok c hc).1, (hok c hc).2.1, by have := (hok c hc).2.2; unfold maxLen; omega⟩, fun h0 => ?_⟩, fun h0 => ?_⟩
  · obtain ⟨g, e1, e2, e3, e4⟩ := hc h0
    refine ⟨g, 0, e1, e3, fun j hj => ?_⟩
    rw [Nat.zero_add]
    exact ⟨e4 j hj 0 (by omega), e4 j hj 1 (by omega), e4 j hj 2 (by omega)⟩
  · obtain ⟨g, e1, e2, e3, e4⟩ := hc h0
    exact ⟨g, e1, e2, e3⟩

def treeS (s : Sc) : Sd := ⟨s.ver, (List.range s.tn).map fun j => treeT (s.tab j), s.grants⟩
theorem decSd_end {l : List UInt8} {v : Int} {T : List Td} {G : List Gr} (g1 : Got decI (some l) v) (g2 : Got (decM 12 decT) (nxt decI (some l)) T) (g3 : Got (decM 64 decG) (nxt (decM 12 decT) (nxt decI (some l))) G) :
    (nxt (decM 64 decG) (nxt (decM 12 decT) (nxt decI (some l))) = some [] → decSd l = some (⟨v, T, G⟩, [])) ∧ (nxt (decM 64 decG) (nxt (decM 12 decT) (nxt decI (some l))) ≠ some [] → ∀ t, decSd l ≠ some (t, [])) := by
  unfold decSd
  cases h1 : decI l with
  | none => rw [nxt_none h1]; exact ⟨fun h => (by cases h), fun _ t h => (by cases h)⟩
  | some x1 =>
    obtain ⟨v', q1⟩ := x1
    rw [nxt_some h1] at g2 g3 ⊢
    rw [got_some g1 h1, Option.bind_some]
    simp only
    cases h2 : decM 12 decT q1 with
    | none => rw [nxt_none h2]; exact ⟨fun h => (by cases h), fun _ t h => (by cases h)⟩
    | some x2 =>
      obtain ⟨T', q2⟩ := x2
      rw [nxt_some h2] at g3 ⊢
      rw [got_some g2 h2, Option.bind_some]
      simp only
      cases h3 : decM 64 decG q2 with
      | none => rw [nxt_none h3]; exact ⟨fun h => (by cases h), fun _ t h => (by cases h)⟩
      | some x3 =>
        obtain ⟨G', q3⟩ := x3
        rw [nxt_some h3, got_some g3 h3, Option.bind_some]
        simp only
        exact ⟨fun h => by injection h with h; rw [h], fun h t e => h (by injection e with e; injection e with _ e; rw [e])⟩
theorem tree_rowT (L : List Tb) : ((List.range L.length).map fun j => treeT (L.getD j default)) = L.map treeT := by
  apply List.ext_getElem
  · simp
  · intro i h1 h2
    simp at h1 h2 ⊢
    rw [List.getElem?_eq_getElem h2]; rfl
theorem set3_grown (w : World) (g : Nat) (x y z : Value) : w.grownBy (((w.setCell ⟨g, 0, none⟩ x).setCell ⟨g, 1, none⟩ y).setCell ⟨g, 2, none⟩ z) (some g) :=
  grownBy_tr (grownBy_tr (grownBy_set _ _ _ _) (grownBy_set _ _ _ _)) (grownBy_set _ _ _ _)

end Go.Proofs.YtnhalfdddcjicaaGreat

namespace Go.Proofs.YtnhalfdddcjicaaGreat
open Go.RowKit

theorem encs_snoc (ns : List Int) (k : Nat) (h : k < ns.length) : encs (ns.take (k + 1)) = encs (ns.take k) ++ enc (ns.getD k 0) := by
  unfold encs
  rw [List.take_succ_eq_append_getElem h, List.map_append, List.flatten_append]
  simp [List.getElem?_eq_getElem h]

theorem enc_len {n : Int} (h : I64 n) : (enc n).length ≤ 10 := uvarint_len (Lib.zigzag_lt h.1 h.2)
theorem encs_len : ∀ (ns : List Int), (∀ m ∈ ns, I64 m) → (encs ns).length ≤ 10 * ns.length
  | [], _ => by simp [encs]
  | n :: r, h => by
    have h1 := encs_len r (fun m hm => h m (by simp [hm]))
    have h2 := enc_len (h n (by simp))
    unfold encs at h1 ⊢
    simp only [List.map_cons, List.flatten_cons, List.length_append, List.length_cons]
    omega

set_option maxRecDepth 100000 in
set_option maxHeartbeats 400000 in
theorem wint_any (b base : Nat) (v : Value) (xs : List UInt8) (A : Option Addr) (n cap : Nat) (ns : List Int) (w : World)
    (hb : At w b 82 #[v]) (ho : Owns w base 5 v xs) (hbase : base ≤ w.heap.size) (hr : Nums w A n ns)
    (hne : 0 < n → ∀ c o, A = some ⟨c, o, none⟩ → c ≠ b ∧ v.ownBlock ≠ some c) (hI : ∀ m ∈ ns, I64 m) (hl : xs.length + 10 * n ≤ 1000000000) :
    Calls Tryz.prog 46 #[.pointer (some ⟨b, 0, none⟩), .slice A n cap] w fun e w' => e = .returned (.tuple #[]) ∧
      ∃ v', At w' b 82 #[v'] ∧ Owns w' base 5 v' (xs ++ encs ns) ∧ Wgrew w b v w' v' := by
  go_enter Tryz.func46, Tryz.ntmps46
  go_wp2
  go_loopw [10] (fun i wr => ∃ (k : Nat) (vr : Value), k ≤ n ∧ i = .int .i64 k ∧ At wr b 82 #[vr] ∧ Owns wr base 5 vr (xs ++ encs (ns.take k)) ∧ Wgrew w b v wr vr) (fun i _ => n - (intOf i).toNat)
  case atStart => exact ⟨0, v, by omega, rfl, hb, by simpa [encs] using ho, Wgrew.refl _ _ _⟩
  case round =>
    obtain ⟨k, vr, hk, rfl, hbr, hor, hgr⟩ := hrel
    by_cases hlt : k < n
    · obtain ⟨c, off, rfl, hc, hcell⟩ := hr.2 (by omega)
      obtain ⟨hne1, hne2⟩ := hne (by omega) c off rfl
      obtain ⟨x, hxe⟩ : ∃ x, ns.getD k 0 = x := ⟨_, rfl⟩
      have hsn := encs_snoc ns k (by rw [hr.1]; exact hlt)
      have hcx := hcell k hlt
      rw [hxe] at hsn hcx
      have hx : wr.cell? ⟨c, off + k, none⟩ = some (.int .i64 x) := (hgr.cell (p := ⟨c, off + k, none⟩) hc hne1 hne2).trans hcx
      have hxI : I64 x := by
        have hkl : k < ns.length := by rw [hr.1]; exact hlt
        apply hI x
        rw [← hxe]
        simp [List.getElem?_eq_getElem hkl]
      have hcb : wr.cell? ⟨b, 0, none⟩ = some vr := At.cell hbr 0
      have hlen : (encs (ns.take k)).length ≤ 10 * k := by
        have := encs_len (ns.take k) (fun m hm => hI m (List.mem_of_mem_take hm))
        have h2 : (ns.take k).length ≤ k := List.length_take_le _ _
        omega
      have HSN := Lib.hid hsn
      have hvne := owns_apart hor hbr (by decide)
      clear hsn hcx hxe hcell
      go_wp2_with fail
      refine (appendNumber_any x hxI base vr _ wr hor (Nat.le_trans hbase hgr.size) (by simp; omega)).mono ?_
      rintro e w1 ⟨g, m, cap1, rfl, ho1, hg1⟩
      have hb1 : At w1 b 82 #[vr] := hbr.grown hg1.grown (fun e => hvne e.symm)
      have hc1 : w1.cell? ⟨b, 0, none⟩ = some vr := At.cell hb1 0
      have hf1 := At.unfrozen hb1 0
      go_wp2
      have hvne1 := owns_apart ho1 hb1 (by decide)
      refine ⟨⟨k + 1, _, by omega, by go_num, At.put hb1 0 _, ?_, hgr.trans (Wgrew.step hg1 b)⟩, by simp [intOf]; omega⟩
      rw [HSN.out, ← List.append_assoc]
      exact ho1.far hvne1 _
    · go_wp2
      go_end0
      refine ⟨rfl, vr, hbr, ?_, hgr⟩
      rw [List.take_of_length_le (by rw [hr.1]; omega)] at hor
      exact hor

theorem wbytes_any (b base : Nat) (v : Value) (xs : List UInt8) (w : World) (hb : At w b 82 #[v]) (ho : Owns w base 5 v xs) :
    Calls Tryz.prog 51 #[.pointer (some ⟨b, 0, none⟩)] w fun e w' => e = .returned (.string ⟨xs.toArray⟩) ∧ w = w' := by
  have hcb : w.cell? ⟨b, 0, none⟩ = some v := At.cell hb 0
  have hcv := run_bytes_owned (P := Tryz.prog) 80 9 5 Tryz.underlying80 Tryz.underlying5 Tryz.underlying9 ho
  go_enter Tryz.func51, Tryz.ntmps51
  go_wp2
  go_ret
  exact ⟨rfl, rfl⟩
end Go.Proofs.YtnhalfdddcjicaaGreat

namespace Go.Proofs.YtnhalfdddcjicaaGreat
open Go.RowKit

theorem enc_small {n : Int} (h0 : 0 ≤ n) (h : n < 64) : enc n = [(2 * n).toNat.toUInt8] := by
  unfold enc Lib.zigzag
  rw [if_pos h0, Lib.uvarint_small (by omega)]
theorem encs_alive : encs [0, -1, 64] = [0, 1, 128, 1] := by
  have h1 : enc 0 = [0] := by rw [enc_small (by omega) (by omega)]; rfl
  have h2 : enc (-1) = [1] := by unfold enc; rw [Lib.uvarint_small (by decide)]; rfl
  have h3 : enc 64 = [128, 1] := by unfold enc; rw [Lib.uvarint_big (by decide), Lib.uvarint_small (by decide)]; rfl
  simp [encs, h1, h2, h3]

/-- A row of numbers that was just laid. -/
theorem Nums.new (w : World) (t : TypeId) (ns : List Int) : Nums (w.alloc (.cells (ns.map (Value.int .i64)).toArray t)) (some ⟨w.heap.size, 0, none⟩) ns.length ns := by
  refine ⟨rfl, fun _ => ⟨w.heap.size, 0, rfl, by simp, fun j hj => ?_⟩⟩
  rw [At.cell (At.fresh w t _) (0 + j)]
  simp [hj]

theorem Nums.new1 (w : World) (o : Obj) (t : TypeId) (ns : List Int) : Nums ((w.alloc o).alloc (.cells (ns.map (Value.int .i64)).toArray t)) (some ⟨w.heap.size + 1, 0, none⟩) ns.length ns := by
  have := Nums.new (w.alloc o) t ns
  simpa using this

/-- 'w.Int(x)': the list of one number has just been laid. -/
theorem wint_one (b base : Nat) (v : Value) (xs : List UInt8) (x : Int) (wr : World) (hb : At wr b 82 #[v]) (ho : Owns wr base 5 v xs) (hbase : base ≤ wr.heap.size) (hI : I64 x) (hl : xs.length ≤ 100000000) :
    Calls Tryz.prog 46 #[.pointer (some ⟨b, 0, none⟩), .slice (some ⟨wr.heap.size, 0, none⟩) 1 1] (wr.alloc (.cells #[.int .i64 x] 3)) fun e w' => e = .returned (.tuple #[]) ∧
      ∃ v', At w' b 82 #[v'] ∧ Owns w' base 5 v' (xs ++ enc x) ∧ Wgrew wr b v w' v' := by
  refine (wint_any b base v xs _ 1 1 [x] _ (hb.alloc _) (World.ownsRow.alloc ho _) (by simp; omega) (Nums.new wr 3 [x]) ?_ (by simpa using hI) (by omega)).mono ?_
  · intro _ c o h
    have hlt := hb.lt
    have hv := ho.lt
    have hc : c = wr.heap.size := by simp at h; exact h.1.symm
    refine ⟨by omega, fun e => ?_⟩
    have := hv c e
    omega
  · rintro e w' ⟨rfl, v', h1, h2, h3⟩
    refine ⟨rfl, v', h1, ?_, h3.alloc_l⟩
    simpa [encs] using h2
/-- 'x := &Writer{}; x.Int(n)'. -/
theorem wint_new (base : Nat) (x : Int) (w : World) (hbase : base ≤ w.heap.size) (hI : I64 x) :
    Calls Tryz.prog 46 #[.pointer (some ⟨w.heap.size, 0, none⟩), .slice (some ⟨w.heap.size + 1, 0, none⟩) 1 1] ((w.alloc (.cells #[.slice none 0 0] 82)).alloc (.cells #[.int .i64 x] 3)) fun e w' => e = .returned (.tuple #[]) ∧
      ∃ v', At w' w.heap.size 82 #[v'] ∧ Owns w' base 5 v' (enc x) ∧ Wgrew w w.heap.size (.slice none 0 0) w' v' := by
  have h := wint_one w.heap.size base (.slice none 0 0) [] x (w.alloc (.cells #[.slice none 0 0] 82)) (At.fresh _ _ _) (Owns.nil _ _ _) (by simp; omega) hI (by simp)
  rw [show (w.alloc (.cells #[.slice none 0 0] 82)).heap.size = w.heap.size + 1 by simp] at h
  refine h.mono ?_
  rintro e w' ⟨rfl, v', h1, h2, h3⟩
  exact ⟨rfl, v', h1, h2, h3.alloc_l⟩

end Go.Proofs.YtnhalfdddcjicaaGreat
