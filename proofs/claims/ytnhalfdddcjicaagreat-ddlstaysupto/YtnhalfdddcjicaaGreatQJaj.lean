/- The walks of the small tests of a column: isRole, canBeKey, hasForm, goodRef. -/
/- The walk of goodRef. -/
/- The walks of what an operation does with values. -/
/- The walks of not, decide and valueOfPair. -/
/- The walk of valueOfPair. -/
/- The walk of valueOf. -/
import Derived.Test.YtnhalfdddcjicaaGreatQJai
import Derived.BigQuiet
import Derived.Deep.QuietTactic
import Derived.Test.YtnhalfdddcjicaaGreatQJag
import Derived.Deep.RegionHeld3
import Derived.Test.YtnhalfdddcjicaaGreatQJah
namespace Go.Proofs.YtnhalfdddcjicaaGreat
open Go.RowKit

def emptyB (l : List UInt8) : Bool := decide (l = [])
def formB (c : Co) : Bool := nameN c.name && decide (1 ≤ c.kind ∧ c.kind ≤ 3) &&
  (if c.del = 0 then true else if c.del = 1 then !emptyB c.ref else if c.del = 2 then !emptyB c.ref && !c.nn else false)
def keyB (c : Co) : Bool := c.nn && !c.un && emptyB c.ref
theorem emptyB_iff (l : List UInt8) : emptyB l = l.isEmpty := by unfold emptyB; cases l <;> simp
theorem empty_forms {l : List UInt8} (h : ¬ l = []) : (l.toArray == #[]) = false ∧ l.isEmpty = false ∧ emptyB l = false := by cases l <;> simp_all [emptyB]

def roleB (n : Int) : Bool := decide (0 ≤ n) && decide (n ≤ 7)
theorem isRole_any (n : Int) (w : World) : Calls Tryz.prog 63 #[.int .i64 n] w fun e w' => e = .returned (.bool (roleB n)) ∧ w = w' := by
  have H : Hid (roleB n = (decide (0 ≤ n) && decide (n ≤ 7))) := rfl
  by_cases h1 : 0 ≤ n
  · have h1' : decide ((0 : Int) ≤ n) = true := by simpa using h1
    have HF := Lib.hid (show roleB n = decide (n < 8) by rw [H.out, h1']; simp; omega)
    clear h1 H
    go_enter Tryz.func63, Tryz.ntmps63
    go_wp2_with fail
    go_ret
    exact ⟨ret_b HF.out.symm, rfl⟩
  · have h1' : decide ((0 : Int) ≤ n) = false := by simpa using h1
    have HF := Lib.hid (show roleB n = false by rw [H.out, h1']; rfl)
    go_enter Tryz.func63, Tryz.ntmps63
    go_wp2_with fail
    go_ret
    exact ⟨ret_b HF.out.symm, rfl⟩

theorem canBeKey_any (c : Co) (w : World) : Calls Tryz.prog 93 #[c.val] w fun e w' => e = .returned (.bool (keyB c)) ∧ Below w.heap.size w w' := by
  have H : Hid (keyB c = (c.nn && !c.un && emptyB c.ref)) := rfl
  have hb := below_box w (.cells #[.string ⟨c.name.toArray⟩, .int .i64 c.kind, .bool c.nn, .bool c.un, .string ⟨c.ref.toArray⟩, .int .i64 c.del] 54)
  unfold Co.val
  obtain ⟨nm, kd, nn, un, rf, dl⟩ := c
  simp only at H hb ⊢
  cases nn <;> cases un
  all_goals
    go_enter Tryz.func93, Tryz.ntmps93
    go_wp2_with fail
    go_ret
    exact ⟨ret_b (by rw [H.out]; simp [emptyB_iff]), hb⟩

set_option maxRecDepth 100000 in
set_option maxHeartbeats 1600000 in
theorem hasForm_any (c : Co) (hc : c.Ok) (w : World) : Calls Tryz.prog 92 #[c.val] w fun e w' => e = .returned (.bool (formB c)) ∧ Below w.heap.size w w' := by
  have H : Hid (formB c = (nameN c.name && decide (1 ≤ c.kind ∧ c.kind ≤ 3) && (if c.del = 0 then true else if c.del = 1 then !emptyB c.ref else if c.del = 2 then !emptyB c.ref && !c.nn else false))) := rfl
  have hb := below_box w (.cells #[.string ⟨c.name.toArray⟩, .int .i64 c.kind, .bool c.nn, .bool c.un, .string ⟨c.ref.toArray⟩, .int .i64 c.del] 54)
  have hn := name_any c.name hc.name
  clear hc
  unfold Co.val
  obtain ⟨nm, kd, nn, un, rf, dl⟩ := c
  simp only at H hb hn ⊢
  generalize nameN nm = b at *
  cases b with
  | false =>
    go_enter Tryz.func92, Tryz.ntmps92
    go_wp2_with fail
    refine (hn _).mono ?_
    rintro e w' ⟨rfl, rfl⟩
    go_wp2_with fail
    go_ret
    exact ⟨ret_b (by rw [H.out]; rfl), hb⟩
  | true =>
    by_cases h1 : kd < 1
    · have g1 : decide (kd < 1) = true := by simpa using h1
      have HF := Lib.hid (show formB ⟨nm, kd, nn, un, rf, dl⟩ = false by rw [H.out]; simp; omega)
      go_enter Tryz.func92, Tryz.ntmps92
      go_wp2_with fail
      refine (hn _).mono ?_
      rintro e w' ⟨rfl, rfl⟩
      go_wp2_with fail
      go_ret
      exact ⟨ret_b HF.out.symm, hb⟩
    have g1 : decide (kd < 1) = false := by simpa using h1
    by_cases h3 : 3 < kd
    · have g3 : decide (3 < kd) = true := by simpa using h3
      have HF := Lib.hid (show formB ⟨nm, kd, nn, un, rf, dl⟩ = false by rw [H.out]; simp; omega)
      go_enter Tryz.func92, Tryz.ntmps92
      go_wp2_with fail
      refine (hn _).mono ?_
      rintro e w' ⟨rfl, rfl⟩
      go_wp2_with fail
      go_ret
      exact ⟨ret_b HF.out.symm, hb⟩
    have g3 : decide (3 < kd) = false := by simpa using h3
    have hk : decide (1 ≤ kd ∧ kd ≤ 3) = true := by simp; omega
    rw [hk] at H
    have HF := Lib.hid (show formB ⟨nm, kd, nn, un, rf, dl⟩ = (if dl = 0 then true else if dl = 1 then !emptyB rf else if dl = 2 then !emptyB rf && !nn else false) by rw [H.out]; simp)
    clear H hk h1 h3
    by_cases d0 : dl = 0
    · subst d0
      go_enter Tryz.func92, Tryz.ntmps92
      go_wp2_with fail
      refine (hn _).mono ?_
      rintro e w' ⟨rfl, rfl⟩
      go_wp2_with fail
      go_ret
      exact ⟨ret_b (by rw [HF.out]; rfl), hb⟩
    by_cases d1 : dl = 1
    · subst d1
      go_enter Tryz.func92, Tryz.ntmps92
      go_wp2_with fail
      refine (hn _).mono ?_
      rintro e w' ⟨rfl, rfl⟩
      go_wp2_with fail
      go_ret
      exact ⟨ret_b (by rw [HF.out]; simp [emptyB_iff]), hb⟩
    by_cases d2 : dl = 2
    · subst d2
      by_cases hr : rf = []
      · subst hr
        go_enter Tryz.func92, Tryz.ntmps92
        go_wp2_with fail
        refine (hn _).mono ?_
        rintro e w' ⟨rfl, rfl⟩
        go_wp2_with fail
        go_ret
        exact ⟨ret_b (by rw [HF.out]; simp [emptyB_iff]), hb⟩
      · obtain ⟨r1, r2, r3⟩ := empty_forms hr
        clear hr
        go_enter Tryz.func92, Tryz.ntmps92
        go_wp2_with fail
        refine (hn _).mono ?_
        rintro e w' ⟨rfl, rfl⟩
        go_wp2_with fail
        go_ret
        exact ⟨ret_b (by rw [HF.out]; simp [r3]), hb⟩
    have e0 : (dl == 0) = false := by simpa using d0
    have e1 : (dl == 1) = false := by simpa using d1
    have e2 : (dl == 2) = false := by simpa using d2
    have HG := Lib.hid (HF.out.trans (by rw [if_neg d0, if_neg d1, if_neg d2]))
    clear HF d0 d1 d2
    go_enter Tryz.func92, Tryz.ntmps92
    go_wp2_with fail
    refine (hn _).mono ?_
    rintro e w' ⟨rfl, rfl⟩
    go_wp2_with fail
    go_ret
    exact ⟨ret_b HG.out.symm, hb⟩
end Go.Proofs.YtnhalfdddcjicaaGreat

namespace Go.Proofs.YtnhalfdddcjicaaGreat
open Go.RowKit

def kind0 (t : Tb) : Int := (t.cols.getD 0 default).kind
/-- What is wrong with what a column of kind k refers to. -/
def tgtE (o : Tb) (k : Int) : Int := if o.cn = 0 then 8 else if kind0 o = k then 0 else 9
def refE (c : Co) (t : Tb) (s : Sc) : Int :=
  if c.ref = t.name then tgtE t c.kind else match firstAt (fun j => (s.tab j).name) c.ref s.tn with | none => 8 | some i => tgtE (s.tab i) c.kind

/-- The cells of the first column. -/
theorem RowC.first {w : World} {A : Option Addr} {n : Nat} {cs : List Co} (h : RowC w A n cs) (hn : 0 < n) : ∃ b off, A = some ⟨b, off, none⟩ ∧ b < w.heap.size ∧ w.cell? ⟨b, off + 1, none⟩ = some (.int .i64 (cs.getD 0 default).kind) ∧ (∃ x, w.cell? ⟨b, off, none⟩ = some x) := by
  obtain ⟨b, off, e1, e2, e3⟩ := h.2.2 hn
  have := e3 0 hn
  obtain ⟨q0, q1, _⟩ := this
  rw [Nat.zero_mul, Nat.add_zero] at q0 q1
  exact ⟨b, off, e1, e2, q1, _, q0⟩
theorem At.four {w : World} {g : Nat} {t : TypeId} {x y z p : Value} (h : At w g t #[x, y, z, p]) : w.cell? ⟨g, 0, none⟩ = some x ∧ w.cell? ⟨g, 1, none⟩ = some y ∧ w.cell? ⟨g, 2, none⟩ = some z ∧ w.cell? ⟨g, 3, none⟩ = some p ∧
    w.frozen? ⟨g, 0, none⟩ = false ∧ w.frozen? ⟨g, 1, none⟩ = false ∧ w.frozen? ⟨g, 2, none⟩ = false ∧ w.frozen? ⟨g, 3, none⟩ = false :=
  ⟨h.cell 0, h.cell 1, h.cell 2, h.cell 3, h.unfrozen 0, h.unfrozen 1, h.unfrozen 2, h.unfrozen 3⟩
theorem below_set4 {w w1 : World} {g : Nat} (h : Below w.heap.size w w1) (hg : w.heap.size ≤ g) (x y z p : Value) : Below w.heap.size w ((((w1.setCell ⟨g, 0, none⟩ x).setCell ⟨g, 1, none⟩ y).setCell ⟨g, 2, none⟩ z).setCell ⟨g, 3, none⟩ p) :=
  (((h.setCell (p := ⟨g, 0, none⟩) hg x).setCell (p := ⟨g, 1, none⟩) hg y).setCell (p := ⟨g, 2, none⟩) hg z).setCell (p := ⟨g, 3, none⟩) hg p

set_option maxRecDepth 100000 in
set_option maxHeartbeats 3200000 in
theorem goodRef_any (c : Co) (t : Tb) (s : Sc) (w : World) (ht : InT w t) (hs : InS w s) :
    Calls Tryz.prog 94 #[c.val, t.val, s.val] w fun e w' => e = .returned (.int .i64 (refE c t s)) ∧ Below w.heap.size w w' := by
  have H : Hid (refE c t s = if c.ref = t.name then tgtE t c.kind else match firstAt (fun j => (s.tab j).name) c.ref s.tn with | none => 8 | some i => tgtE (s.tab i) c.kind) := rfl
  obtain ⟨nm, kd, nn, un, rf, dl⟩ := c
  obtain ⟨W, hW⟩ : ∃ W, (((w.alloc (.cells #[.string ⟨nm.toArray⟩, .int .i64 kd, .bool nn, .bool un, .string ⟨rf.toArray⟩, .int .i64 dl] 54)).alloc
    (.cells #[.string ⟨t.name.toArray⟩, .int .i64 t.owner, .slice t.cA t.cn t.ccap, .slice t.eA t.en t.ecap] 32)).alloc
    (.cells #[.int .i64 s.ver, .slice s.tA s.tn s.tcap, .slice s.gA s.gn s.gcap] 25)).alloc
    (.cells #[.string ⟨t.name.toArray⟩, .int .i64 t.owner, .slice t.cA t.cn t.ccap, .slice t.eA t.en t.ecap] 32) = W := ⟨_, rfl⟩
  have b3 : Below w.heap.size w W := by
    rw [← hW]
    have b0 := below_box w (.cells #[.string ⟨nm.toArray⟩, .int .i64 kd, .bool nn, .bool un, .string ⟨rf.toArray⟩, .int .i64 dl] 54)
    have b1 := b0.alloc b0.size (.cells #[.string ⟨t.name.toArray⟩, .int .i64 t.owner, .slice t.cA t.cn t.ccap, .slice t.eA t.en t.ecap] 32)
    have b2 := b1.alloc b1.size (.cells #[.int .i64 s.ver, .slice s.tA s.tn s.tcap, .slice s.gA s.gn s.gcap] 25)
    exact b2.alloc b2.size _
  have aC : At W w.heap.size 54 #[.string ⟨nm.toArray⟩, .int .i64 kd, .bool nn, .bool un, .string ⟨rf.toArray⟩, .int .i64 dl] := by
    rw [← hW]
    exact (((At.fresh _ _ _).alloc _).alloc _).alloc _
  have aS : At W (w.heap.size + 1 + 1) 25 #[.int .i64 s.ver, .slice s.tA s.tn s.tcap, .slice s.gA s.gn s.gcap] := by
    rw [← hW]
    have := At.fresh ((w.alloc (.cells #[.string ⟨nm.toArray⟩, .int .i64 kd, .bool nn, .bool un, .string ⟨rf.toArray⟩, .int .i64 dl] 54)).alloc (.cells #[.string ⟨t.name.toArray⟩, .int .i64 t.owner, .slice t.cA t.cn t.ccap, .slice t.eA t.en t.ecap] 32)) 25 #[.int .i64 s.ver, .slice s.tA s.tn s.tcap, .slice s.gA s.gn s.gcap]
    simp only [World.size_alloc] at this
    exact this.alloc _
  have aX : At W (w.heap.size + 1 + 1 + 1) 32 #[.string ⟨t.name.toArray⟩, .int .i64 t.owner, .slice t.cA t.cn t.ccap, .slice t.eA t.en t.ecap] := by
    rw [← hW]
    have := At.fresh (((w.alloc (.cells #[.string ⟨nm.toArray⟩, .int .i64 kd, .bool nn, .bool un, .string ⟨rf.toArray⟩, .int .i64 dl] 54)).alloc (.cells #[.string ⟨t.name.toArray⟩, .int .i64 t.owner, .slice t.cA t.cn t.ccap, .slice t.eA t.en t.ecap] 32)).alloc (.cells #[.int .i64 s.ver, .slice s.tA s.tn s.tcap, .slice s.gA s.gn s.gcap] 25)) 32 #[.string ⟨t.name.toArray⟩, .int .i64 t.owner, .slice t.cA t.cn t.ccap, .slice t.eA t.en t.ecap]
    simp only [World.size_alloc] at this
    exact this
  have hTE : ∀ o k, Hid (tgtE o k = if o.cn = 0 then 8 else if kind0 o = k then 0 else 9) := fun _ _ => rfl
  have k1 : W.cell? ⟨w.heap.size, 1, none⟩ = some (.int .i64 kd) := aC.cell 1
  have x2 : W.cell? ⟨w.heap.size + 1 + 1 + 1, 2, none⟩ = some (.slice t.cA t.cn t.ccap) := aX.cell 2
  by_cases hname : rf = t.name
  · have HE := Lib.hid (H.out.trans (if_pos hname))
    have HE := Lib.hid (HE.out.trans (hTE t kd).out)
    have g0 : (rf == t.name) = true := by simp [hname]
    clear H hTE
    unfold Co.val Tb.val Sc.val
    simp only
    by_cases h0 : t.cn = 0
    · have HE := Lib.hid (HE.out.trans (if_pos h0))
      have g1 : (((t.cn : Nat) : Int) == 0) = true := by simp; omega
      have hWc := Lib.hid hW
      clear hname h0 hW ht hs aC aS aX
      go_enter Tryz.func94, Tryz.ntmps94
      go_wp2_with fail
      go_ret
      rw [hWc.out]
      exact ⟨ret_int HE.out.symm, b3⟩
    · have HE := Lib.hid (HE.out.trans (if_neg h0))
      have g1 : (((t.cn : Nat) : Int) == 0) = false := by simp; omega
      have g2 : (0 : Int) < (t.cn : Int) := by omega
      obtain ⟨b, off, hcA, hlt, c1, x0, c0⟩ := ht.cols.first (by omega)
      have HK : Hid (kind0 t = (t.cols.getD 0 default).kind) := rfl
      generalize (t.cols.getD 0 default).kind = k0 at *
      rw [HK.out] at HE
      rw [hcA] at x2 hW ⊢
      have hWc := Lib.hid hW
      have c1' := (b3.cell (p := ⟨b, off + 1, none⟩) hlt).trans c1
      clear hname h0 HK ht hs aC aS aX hW
      by_cases hk : k0 = kd
      · have HE := Lib.hid (HE.out.trans (if_pos hk))
        have gk : (k0 != kd) = false := by simp [hk]
        clear hk
        go_enter Tryz.func94, Tryz.ntmps94
        go_wp2_with fail
        rw [hWc.out]
        go_quiet (fail)
        go_wp2_with fail
        go_ret
        exact ⟨ret_int HE.out.symm, below_nq b3 _⟩
      · have HE := Lib.hid (HE.out.trans (if_neg hk))
        have gk : (k0 != kd) = true := by simp [hk]
        clear hk
        go_enter Tryz.func94, Tryz.ntmps94
        go_wp2_with fail
        rw [hWc.out]
        go_quiet (fail)
        go_wp2_with fail
        go_ret
        exact ⟨ret_int HE.out.symm, below_nq b3 _⟩
  · have HE := Lib.hid (H.out.trans (if_neg hname))
    have g0 : (rf == t.name) = false := by simp [hname]
    clear H hname
    have hp := place_any s rf W (hs.below b3)
    unfold Co.val Tb.val Sc.val at *
    simp only
    cases hf : firstAt (fun j => (s.tab j).name) rf s.tn with
    | none =>
      rw [first_none hf] at hp
      rw [hf] at HE
      simp only at HE
      have hWc := Lib.hid hW
      clear hf hW
      go_enter Tryz.func94, Tryz.ntmps94
      go_wp2_with fail
      rw [hWc.out]
      refine hp.mono ?_
      rintro e w2 ⟨rfl, b2⟩
      go_wp2_with fail
      go_ret
      exact ⟨ret_int HE.out.symm, below_in b3 b2⟩
    | some i =>
      have hi := firstAt_some hf
      have hfi : firstI (fun j => (s.tab j).name) rf s.tn = (i : Int) := by unfold firstI; rw [hf]
      rw [hfi] at hp
      rw [hf] at HE
      simp only at HE
      obtain ⟨b, off, htA, hlt, hcell⟩ := hs.tabs (by omega)
      obtain ⟨hcl, hinT⟩ := hcell i hi.1
      have hsm := hs.tmax
      unfold maxLen at hsm
      have hii : (i : Int) < (s.tn : Int) := by omega
      have hin : i < s.tn := hi.1
      rw [htA] at hW hp aS ⊢
      have hWc := Lib.hid hW
      clear hW
      generalize s.tab i = o at *
      have HE := Lib.hid (HE.out.trans (hTE o kd).out)
      clear hf hfi hcell hs hi hTE
      go_enter Tryz.func94, Tryz.ntmps94
      go_wp2_with fail
      rw [hWc.out]
      refine hp.mono ?_
      rintro e w2 ⟨rfl, b2⟩
      have hb2 := below_in b3 b2
      obtain ⟨o0, o1, o2, o3⟩ := hcl.keep fun j => hb2.cell (p := ⟨b, j, none⟩) hlt
      obtain ⟨d0, d1, d2, d3, z0, z1, z2, z3⟩ := (aX.below b2 aX.lt).four
      have aS2 := aS.below b2 aS.lt
      have s1 : w2.cell? ⟨w.heap.size + 1 + 1, 1, none⟩ = some (.slice (some ⟨b, off, none⟩) s.tn s.tcap) := aS2.cell 1
      have kk : w2.cell? ⟨w.heap.size, 1, none⟩ = some (.int .i64 kd) := (aC.below b2 aC.lt).cell 1
      have b4 := fun x y z p => below_set4 (g := w.heap.size + 1 + 1 + 1) hb2 (by omega) x y z p
      clear hp hWc aX aS aS2 aC k1 x2
      by_cases h0 : o.cn = 0
      · have HE := Lib.hid (HE.out.trans (if_pos h0))
        have g1 : (((o.cn : Nat) : Int) == 0) = true := by simp; omega
        clear h0
        go_wp2_with fail
        go_ret
        exact ⟨ret_int HE.out.symm, b4 _ _ _ _⟩
      · have HE := Lib.hid (HE.out.trans (if_neg h0))
        have g1 : (((o.cn : Nat) : Int) == 0) = false := by simp; omega
        have g2 : (0 : Int) < (o.cn : Int) := by omega
        obtain ⟨b', off', hcA, hlt', c1, x0, c0⟩ := hinT.cols.first (by omega)
        have c1' := (hb2.cell (p := ⟨b', off' + 1, none⟩) hlt').trans c1
        have n3 : ¬ b' = w.heap.size + 1 + 1 + 1 := by omega
        have HK : Hid (kind0 o = (o.cols.getD 0 default).kind) := rfl
        generalize (o.cols.getD 0 default).kind = k0 at *
        rw [HK.out] at HE
        rw [hcA] at o2
        clear h0 HK hinT c1 hcA
        by_cases hk : k0 = kd
        · have HE := Lib.hid (HE.out.trans (if_pos hk))
          have gk : (k0 != kd) = false := by simp [hk]
          clear hk
          go_wp2_with fail
          go_quiet (fail)
          go_wp2_with fail
          go_ret
          exact ⟨ret_int HE.out.symm, below_nq (b4 _ _ _ _) _⟩
        · have HE := Lib.hid (HE.out.trans (if_neg hk))
          have gk : (k0 != kd) = true := by simp [hk]
          clear hk
          go_wp2_with fail
          go_quiet (fail)
          go_wp2_with fail
          go_ret
          exact ⟨ret_int HE.out.symm, below_nq (b4 _ _ _ _) _⟩
end Go.Proofs.YtnhalfdddcjicaaGreat

namespace Go.Proofs.YtnhalfdddcjicaaGreat
open Go.RowKit

theorem below_set3 {w w1 : World} {g : Nat} (h : Below w.heap.size w w1) (hg : w.heap.size ≤ g) (x y z : Value) : Below w.heap.size w (((w1.setCell ⟨g, 0, none⟩ x).setCell ⟨g, 1, none⟩ y).setCell ⟨g, 2, none⟩ z) :=
  ((h.setCell (p := ⟨g, 0, none⟩) hg x).setCell (p := ⟨g, 1, none⟩) hg y).setCell (p := ⟨g, 2, none⟩) hg z

theorem At.three {w : World} {g : Nat} {t : TypeId} {x y z : Value} (h : At w g t #[x, y, z]) : w.cell? ⟨g, 0, none⟩ = some x ∧ w.cell? ⟨g, 1, none⟩ = some y ∧ w.cell? ⟨g, 2, none⟩ = some z ∧
    w.frozen? ⟨g, 0, none⟩ = false ∧ w.frozen? ⟨g, 1, none⟩ = false ∧ w.frozen? ⟨g, 2, none⟩ = false := ⟨h.cell 0, h.cell 1, h.cell 2, h.unfrozen 0, h.unfrozen 1, h.unfrozen 2⟩
/-- The cells of a value. -/
def cs3 (k n : Int) (t : List UInt8) : Array Value := #[.int .i64 k, .int .i64 n, .string ⟨t.toArray⟩]
def z3 : Array Value := #[.int .i64 0, .int .i64 0, .string ⟨#[]⟩]

theorem cmpNaNi_any (a : Int) (w : World) :
    Calls Tryz.prog 111 #[.int .i64 a] w fun e w' => e = .returned (.bool false) ∧ w = w' := by
  go_enter Tryz.func111, Tryz.ntmps111
  go_wp2
  go_ret
  exact ⟨by simp, rfl⟩
set_option maxHeartbeats 800000 in
theorem cmpInt_any (a b : Int) (w : World) :
    Calls Tryz.prog 87 #[.int .i64 a, .int .i64 b] w fun e w' => e = .returned (.int .i64 (cmpInt a b)) ∧ w = w' := by
  have H : Hid (cmpInt a b = if a < b then -1 else if b < a then 1 else 0) := rfl
  go_enter Tryz.func87, Tryz.ntmps87
  go_wp2_with (go_at_call 111; refine (cmpNaNi_any _ _).mono ?_; rintro e w' ⟨rfl, rfl⟩)
  all_goals
    go_ret
    exact ⟨ret_i (by rw [H.out]; (repeat' split) <;> first | rfl | omega), rfl⟩
end Go.Proofs.YtnhalfdddcjicaaGreat

namespace Go.Proofs.YtnhalfdddcjicaaGreat
open Go.RowKit

/-- Three new variables. -/
theorem box3 (w : World) (t : TypeId) (x y z : Array Value) : Below w.heap.size w (((w.alloc (.cells x t)).alloc (.cells y t)).alloc (.cells z t)) ∧
    At (((w.alloc (.cells x t)).alloc (.cells y t)).alloc (.cells z t)) w.heap.size t x ∧ At (((w.alloc (.cells x t)).alloc (.cells y t)).alloc (.cells z t)) (w.heap.size + 1) t y ∧
    At (((w.alloc (.cells x t)).alloc (.cells y t)).alloc (.cells z t)) (w.heap.size + 2) t z := by
  refine ⟨((below_box w _).alloc (by simp) _).alloc (by simp; omega) _, ((At.fresh w t x).alloc _).alloc _, ?_, ?_⟩
  · have := (At.fresh (w.alloc (.cells x t)) t y).alloc (.cells z t)
    simpa using this
  · have := At.fresh ((w.alloc (.cells x t)).alloc (.cells y t)) t z
    simpa using this

end Go.Proofs.YtnhalfdddcjicaaGreat

namespace Go.Proofs.YtnhalfdddcjicaaGreat
open Go.RowKit

end Go.Proofs.YtnhalfdddcjicaaGreat

namespace Go.Proofs.YtnhalfdddcjicaaGreat
open Go.RowKit

theorem box2 (w : World) (t s : TypeId) (x y : Array Value) : Below w.heap.size w ((w.alloc (.cells x t)).alloc (.cells y s)) ∧ At ((w.alloc (.cells x t)).alloc (.cells y s)) w.heap.size t x ∧ At ((w.alloc (.cells x t)).alloc (.cells y s)) (w.heap.size + 1) s y := by
  refine ⟨(below_box w _).alloc (by simp) _, (At.fresh w t x).alloc _, ?_⟩
  have := At.fresh (w.alloc (.cells x t)) s y
  simpa using this

end Go.Proofs.YtnhalfdddcjicaaGreat
