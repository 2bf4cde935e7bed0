/- The walk of goodRef. -/
import Derived.Test.YtlkeagfmlcbogaaQScF
namespace Go.Proofs.Ytlkeagfmlcbogaa
open Go.RowKit

def kind0 (t : Tb) : Int := (t.cols.getD 0 default).kind
/-- What is wrong with what a column of kind k refers to. -/
def tgtE (o : Tb) (k : Int) : Int := if o.cn = 0 then 8 else if kind0 o = k then 0 else 9
def refE (c : Co) (t : Tb) (s : Sc) : Int :=
  if c.ref = t.name then tgtE t c.kind else match firstAt (fun j => (s.tab j).name) c.ref s.tn with | none => 8 | some i => tgtE (s.tab i) c.kind

/-- The cells of the first column. -/
theorem RowC.first {w : World} {A : Option Addr} {n : Nat} {cs : List Co} (h : RowC w A n cs) (hn : 0 < n) : ∃ b off, A = some ⟨b, off, none⟩ ∧ b < w.heap.size ∧ w.cell? ⟨b, off + 1, none⟩ = some (.int .i64 (cs.getD 0 default).kind) ∧ (∃ x, w.cell? ⟨b, off, none⟩ = some x) := by
  obtain ⟨b, off, e1, e2, e3⟩ := h.2.2 hn
  have := e3 0 hn
  obtain ⟨q0, q1, _⟩ := this
  rw [Nat.zero_mul, Nat.add_zero] at q0 q1
  exact ⟨b, off, e1, e2, q1, _, q0⟩
theorem At.four {w : World} {g : Nat} {t : TypeId} {x y z p : Value} (h : At w g t #[x, y, z, p]) : w.cell? ⟨g, 0, none⟩ = some x ∧ w.cell? ⟨g, 1, none⟩ = some y ∧ w.cell? ⟨g, 2, none⟩ = some z ∧ w.cell? ⟨g, 3, none⟩ = some p ∧
    w.frozen? ⟨g, 0, none⟩ = false ∧ w.frozen? ⟨g, 1, none⟩ = false ∧ w.frozen? ⟨g, 2, none⟩ = false ∧ w.frozen? ⟨g, 3, none⟩ = false :=
  ⟨h.cell 0, h.cell 1, h.cell 2, h.cell 3, h.unfrozen 0, h.unfrozen 1, h.unfrozen 2, h.unfrozen 3⟩
theorem below_set4 {w w1 : World} {g : Nat} (h : Below w.heap.size w w1) (hg : w.heap.size ≤ g) (x y z p : Value) : Below w.heap.size w ((((w1.setCell ⟨g, 0, none⟩ x).setCell ⟨g, 1, none⟩ y).setCell ⟨g, 2, none⟩ z).setCell ⟨g, 3, none⟩ p) :=
  (((h.setCell (p := ⟨g, 0, none⟩) hg x).setCell (p := ⟨g, 1, none⟩) hg y).setCell (p := ⟨g, 2, none⟩) hg z).setCell (p := ⟨g, 3, none⟩) hg p

set_option maxRecDepth 100000 in
set_option maxHeartbeats 3200000 in
theorem goodRef_any (c : Co) (t : Tb) (s : Sc) (w : World) (ht : InT w t) (hs : InS w s) :
    Calls Try.prog 63 #[c.val, t.val, s.val] w fun e w' => e = .returned (.int .i64 (refE c t s)) ∧ Below w.heap.size w w' := by
  have H : Hid (refE c t s = if c.ref = t.name then tgtE t c.kind else match firstAt (fun j => (s.tab j).name) c.ref s.tn with | none => 8 | some i => tgtE (s.tab i) c.kind) := rfl
  obtain ⟨nm, kd, nn, un, rf, dl⟩ := c
  obtain ⟨W, hW⟩ : ∃ W, (((w.alloc (.cells #[.string ⟨nm.toArray⟩, .int .i64 kd, .bool nn, .bool un, .string ⟨rf.toArray⟩, .int .i64 dl] 35)).alloc
    (.cells #[.string ⟨t.name.toArray⟩, .int .i64 t.owner, .slice t.cA t.cn t.ccap, .slice t.eA t.en t.ecap] 39)).alloc
    (.cells #[.int .i64 s.ver, .slice s.tA s.tn s.tcap, .slice s.gA s.gn s.gcap] 25)).alloc
    (.cells #[.string ⟨t.name.toArray⟩, .int .i64 t.owner, .slice t.cA t.cn t.ccap, .slice t.eA t.en t.ecap] 39) = W := ⟨_, rfl⟩
  have b3 : Below w.heap.size w W := by
    rw [← hW]
    have b0 := below_box w (.cells #[.string ⟨nm.toArray⟩, .int .i64 kd, .bool nn, .bool un, .string ⟨rf.toArray⟩, .int .i64 dl] 35)
    have b1 := b0.alloc b0.size (.cells #[.string ⟨t.name.toArray⟩, .int .i64 t.owner, .slice t.cA t.cn t.ccap, .slice t.eA t.en t.ecap] 39)
    have b2 := b1.alloc b1.size (.cells #[.int .i64 s.ver, .slice s.tA s.tn s.tcap, .slice s.gA s.gn s.gcap] 25)
    exact b2.alloc b2.size _
  have aC : At W w.heap.size 35 #[.string ⟨nm.toArray⟩, .int .i64 kd, .bool nn, .bool un, .string ⟨rf.toArray⟩, .int .i64 dl] := by
    rw [← hW]
    exact (((At.fresh _ _ _).alloc _).alloc _).alloc _
  have aS : At W (w.heap.size + 1 + 1) 25 #[.int .i64 s.ver, .slice s.tA s.tn s.tcap, .slice s.gA s.gn s.gcap] := by
    rw [← hW]
    have := At.fresh ((w.alloc (.cells #[.string ⟨nm.toArray⟩, .int .i64 kd, .bool nn, .bool un, .string ⟨rf.toArray⟩, .int .i64 dl] 35)).alloc (.cells #[.string ⟨t.name.toArray⟩, .int .i64 t.owner, .slice t.cA t.cn t.ccap, .slice t.eA t.en t.ecap] 39)) 25 #[.int .i64 s.ver, .slice s.tA s.tn s.tcap, .slice s.gA s.gn s.gcap]
    simp only [World.size_alloc] at this
    exact this.alloc _
  have aX : At W (w.heap.size + 1 + 1 + 1) 39 #[.string ⟨t.name.toArray⟩, .int .i64 t.owner, .slice t.cA t.cn t.ccap, .slice t.eA t.en t.ecap] := by
    rw [← hW]
    have := At.fresh (((w.alloc (.cells #[.string ⟨nm.toArray⟩, .int .i64 kd, .bool nn, .bool un, .string ⟨rf.toArray⟩, .int .i64 dl] 35)).alloc (.cells #[.string ⟨t.name.toArray⟩, .int .i64 t.owner, .slice t.cA t.cn t.ccap, .slice t.eA t.en t.ecap] 39)).alloc (.cells #[.int .i64 s.ver, .slice s.tA s.tn s.tcap, .slice s.gA s.gn s.gcap] 25)) 39 #[.string ⟨t.name.toArray⟩, .int .i64 t.owner, .slice t.cA t.cn t.ccap, .slice t.eA t.en t.ecap]
    simp only [World.size_alloc] at this
    exact this
  have hTE : ∀ o k, Hid (tgtE o k = if o.cn = 0 then 8 else if kind0 o = k then 0 else 9) := fun _ _ => rfl
  have k1 : W.cell? ⟨w.heap.size, 1, none⟩ = some (.int .i64 kd) := aC.cell 1
  have x2 : W.cell? ⟨w.heap.size + 1 + 1 + 1, 2, none⟩ = some (.slice t.cA t.cn t.ccap) := aX.cell 2
  by_cases hname : rf = t.name
  · have HE := Lib.hid (H.out.trans (if_pos hname))
    have HE := Lib.hid (HE.out.trans (hTE t kd).out)
    have g0 : (rf == t.name) = true := by simp [hname]
    clear H hTE
    unfold Co.val Tb.val Sc.val
    simp only
    by_cases h0 : t.cn = 0
    · have HE := Lib.hid (HE.out.trans (if_pos h0))
      have g1 : (((t.cn : Nat) : Int) == 0) = true := by simp; omega
      have hWc := Lib.hid hW
      clear hname h0 hW ht hs aC aS aX
      go_enter Try.func63, Try.ntmps63
      go_wp2_with fail
      go_ret
      rw [hWc.out]
      exact ⟨ret_int HE.out.symm, b3⟩
    · have HE := Lib.hid (HE.out.trans (if_neg h0))
      have g1 : (((t.cn : Nat) : Int) == 0) = false := by simp; omega
      have g2 : (0 : Int) < (t.cn : Int) := by omega
      obtain ⟨b, off, hcA, hlt, c1, x0, c0⟩ := ht.cols.first (by omega)
      have HK : Hid (kind0 t = (t.cols.getD 0 default).kind) := rfl
      generalize (t.cols.getD 0 default).kind = k0 at *
      rw [HK.out] at HE
      rw [hcA] at x2 hW ⊢
      have hWc := Lib.hid hW
      have c1' := (b3.cell (p := ⟨b, off + 1, none⟩) hlt).trans c1
      clear hname h0 HK ht hs aC aS aX hW
      by_cases hk : k0 = kd
      · have HE := Lib.hid (HE.out.trans (if_pos hk))
        have gk : (k0 != kd) = false := by simp [hk]
        clear hk
        go_enter Try.func63, Try.ntmps63
        go_wp2_with fail
        rw [hWc.out]
        go_quiet (fail)
        go_wp2_with fail
        go_ret
        exact ⟨ret_int HE.out.symm, below_nq b3 _⟩
      · have HE := Lib.hid (HE.out.trans (if_neg hk))
        have gk : (k0 != kd) = true := by simp [hk]
        clear hk
        go_enter Try.func63, Try.ntmps63
        go_wp2_with fail
        rw [hWc.out]
        go_quiet (fail)
        go_wp2_with fail
        go_ret
        exact ⟨ret_int HE.out.symm, below_nq b3 _⟩
  · have HE := Lib.hid (H.out.trans (if_neg hname))
    have g0 : (rf == t.name) = false := by simp [hname]
    clear H hname
    have hp := place_any s rf W (hs.below b3)
    unfold Co.val Tb.val Sc.val at *
    simp only
    cases hf : firstAt (fun j => (s.tab j).name) rf s.tn with
    | none =>
      rw [first_none hf] at hp
      rw [hf] at HE
      simp only at HE
      have hWc := Lib.hid hW
      clear hf hW
      go_enter Try.func63, Try.ntmps63
      go_wp2_with fail
      rw [hWc.out]
      refine hp.mono ?_
      rintro e w2 ⟨rfl, b2⟩
      go_wp2_with fail
      go_ret
      exact ⟨ret_int HE.out.symm, below_in b3 b2⟩
    | some i =>
      have hi := firstAt_some hf
      have hfi : firstI (fun j => (s.tab j).name) rf s.tn = (i : Int) := by unfold firstI; rw [hf]
      rw [hfi] at hp
      rw [hf] at HE
      simp only at HE
      obtain ⟨b, off, htA, hlt, hcell⟩ := hs.tabs (by omega)
      obtain ⟨hcl, hinT⟩ := hcell i hi.1
      have hsm := hs.tmax
      unfold maxLen at hsm
      have hii : (i : Int) < (s.tn : Int) := by omega
      have hin : i < s.tn := hi.1
      rw [htA] at hW hp aS ⊢
      have hWc := Lib.hid hW
      clear hW
      generalize s.tab i = o at *
      have HE := Lib.hid (HE.out.trans (hTE o kd).out)
      clear hf hfi hcell hs hi hTE
      go_enter Try.func63, Try.ntmps63
      go_wp2_with fail
      rw [hWc.out]
      refine hp.mono ?_
      rintro e w2 ⟨rfl, b2⟩
      have hb2 := below_in b3 b2
      obtain ⟨o0, o1, o2, o3⟩ := hcl.keep fun j => hb2.cell (p := ⟨b, j, none⟩) hlt
      obtain ⟨d0, d1, d2, d3, z0, z1, z2, z3⟩ := (aX.below b2 aX.lt).four
      have aS2 := aS.below b2 aS.lt
      have s1 : w2.cell? ⟨w.heap.size + 1 + 1, 1, none⟩ = some (.slice (some ⟨b, off, none⟩) s.tn s.tcap) := aS2.cell 1
      have kk : w2.cell? ⟨w.heap.size, 1, none⟩ = some (.int .i64 kd) := (aC.below b2 aC.lt).cell 1
      have b4 := fun x y z p => below_set4 (g := w.heap.size + 1 + 1 + 1) hb2 (by omega) x y z p
      clear hp hWc aX aS aS2 aC k1 x2
      by_cases h0 : o.cn = 0
      · have HE := Lib.hid (HE.out.trans (if_pos h0))
        have g1 : (((o.cn : Nat) : Int) == 0) = true := by simp; omega
        clear h0
        go_wp2_with fail
        go_ret
        exact ⟨ret_int HE.out.symm, b4 _ _ _ _⟩
      · have HE := Lib.hid (HE.out.trans (if_neg h0))
        have g1 : (((o.cn : Nat) : Int) == 0) = false := by simp; omega
        have g2 : (0 : Int) < (o.cn : Int) := by omega
        obtain ⟨b', off', hcA, hlt', c1, x0, c0⟩ := hinT.cols.first (by omega)
        have c1' := (hb2.cell (p := ⟨b', off' + 1, none⟩) hlt').trans c1
        have n3 : ¬ b' = w.heap.size + 1 + 1 + 1 := by omega
        have HK : Hid (kind0 o = (o.cols.getD 0 default).kind) := rfl
        generalize (o.cols.getD 0 default).kind = k0 at *
        rw [HK.out] at HE
        rw [hcA] at o2
        clear h0 HK hinT c1 hcA
        by_cases hk : k0 = kd
        · have HE := Lib.hid (HE.out.trans (if_pos hk))
          have gk : (k0 != kd) = false := by simp [hk]
          clear hk
          go_wp2_with fail
          go_quiet (fail)
          go_wp2_with fail
          go_ret
          exact ⟨ret_int HE.out.symm, below_nq (b4 _ _ _ _) _⟩
        · have HE := Lib.hid (HE.out.trans (if_neg hk))
          have gk : (k0 != kd) = true := by simp [hk]
          clear hk
          go_wp2_with fail
          go_quiet (fail)
          go_wp2_with fail
          go_ret
          exact ⟨ret_int HE.out.symm, below_nq (b4 _ _ _ _) _⟩
end Go.Proofs.Ytlkeagfmlcbogaa
