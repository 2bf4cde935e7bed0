/- The walk of the reference's apply: statements that change no schema; roles that are none. -/
/- What a schema leads to lies in no block without a string: writing there keeps it. -/
/- The reference's apply, of any kind and role; its Apply. -/
import Derived.Test.YtnhalfdddcjicaaGreatQDdN
import Derived.Test.YtnhalfdddcjicaaGreatQDdNa
import Derived.Test.YtnhalfdddcjicaaGreatQDdNb
import Derived.Test.YtnhalfdddcjicaaGreatQJbf
import Derived.Test.YtnhalfdddcjicaaGreatQSsB
namespace Go.Proofs.YtnhalfdddcjicaaGreat
open Go.RowKit

set_option maxRecDepth 100000 in
set_option maxHeartbeats 12800000 in
theorem rapplyD_any (s : Sc) (role : Int) (st : St) (w : World) (_hs : InS w s) (_hst : InSt w st) (_hrole : I64 role) (_hwd : wtT st.def_ ≤ 1048576) (_htn : s.tn ≤ 100000) (_hsg : SortedG s.grants) (hr : 0 ≤ role ∧ role ≤ 7) (hd : isD st.kind = false) :
    Calls Tryz.prog 25 #[s.val, .int .i64 role, st.val] w fun e w' => RpE s role st e w' ∧ Below w.heap.size w w' := by
  have HZ : Hid (∀ er w', er ≠ 0 → (∀ X, AppT s role st er X) → RpE s role st (.returned (.tuple #[.agg #[.int .i64 0, .slice none 0 0, .slice none 0 0], .int .i64 er])) w') := by
    show ∀ _, _
    exact fun er w' h1 h2 => ⟨noS, er, rfl, in_noS w', .inl ⟨h1, rfl, h2⟩⟩
  have HF : Hid (∀ o w', InS w' o → AppT s role st 0 (treeS o) → RpE s role st (.returned (.tuple #[o.val, .int .i64 0])) w') := by
    show ∀ _, _
    exact fun o w' h1 h2 => ⟨o, 0, rfl, h1, .inr ⟨rfl, h2⟩⟩
  have b1 := below_box w (.cells #[.int .i64 s.ver, .slice s.tA s.tn s.tcap, .slice s.gA s.gn s.gcap] 25)
  have aS := At.fresh w 25 #[.int .i64 s.ver, .slice s.tA s.tn s.tcap, .slice s.gA s.gn s.gcap]
  obtain ⟨W1, hW1⟩ : ∃ W1, w.alloc (.cells #[.int .i64 s.ver, .slice s.tA s.tn s.tcap, .slice s.gA s.gn s.gcap] 25) = W1 := ⟨_, rfl⟩
  rw [hW1] at b1 aS
  have hz1 : W1.heap.size = w.heap.size + 1 := by rw [← hW1]; simp
  have b2 := below_box W1 (.cells st.cells 34)
  have aT := At.fresh W1 34 st.cells
  obtain ⟨W2, hW2⟩ : ∃ W2, W1.alloc (.cells st.cells 34) = W2 := ⟨_, rfl⟩
  rw [hW2] at b2 aT
  have hz2 : W2.heap.size = w.heap.size + 1 + 1 := by rw [← hW2]; simp [hz1]
  have b3 := below_box W2 (.cells #[.int .i64 0, .slice none 0 0, .slice none 0 0] 25)
  have aR := At.fresh W2 25 #[.int .i64 0, .slice none 0 0, .slice none 0 0]
  obtain ⟨W3, hW3⟩ : ∃ W3, W2.alloc (.cells #[.int .i64 0, .slice none 0 0, .slice none 0 0] 25) = W3 := ⟨_, rfl⟩
  rw [hW3] at b3 aR
  have hz3 : W3.heap.size = w.heap.size + 1 + 1 + 1 := by rw [← hW3]; simp [hz2]
  have aS3 := (aS.below b2 aS.lt).below b3 (aS.below b2 aS.lt).lt
  have aT3 := aT.below b3 aT.lt
  have hb3 := below_in (below_in b1 b2) b3
  rw [hz1] at aT3
  rw [hz2] at aR
  have hWc := Lib.hid (show ((w.alloc (.cells #[.int .i64 s.ver, .slice s.tA s.tn s.tcap, .slice s.gA s.gn s.gcap] 25)).alloc (.cells st.cells 34)).alloc (.cells #[.int .i64 0, .slice none 0 0, .slice none 0 0] 25) = W3 by rw [hW1, hW2, hW3])
  clear hW1 hW2 hW3 aS aT b1 b2 b3
  obtain ⟨s0, s1, s2⟩ := aS3.tri0
  obtain ⟨r0, r1, r2⟩ := aR.tri0
  have y0 := aR.unfrozen 0
  have y1 := aR.unfrozen 1
  have y2 := aR.unfrozen 2
  have hfin0 := fun x y z => below_set3 (g := w.heap.size + 1 + 1) hb3 (by omega) x y z
  have HVAL : Hid (st.val = .agg st.cells) := rfl
  unfold Sc.val
  rw [HVAL.out]
  have hvI := i64_next s.ver
  have hvn : IntKind.i64.wrap (s.ver + 1) = vnext s.ver := rfl
  obtain ⟨vn, hvn2⟩ : ∃ vn, vnext s.ver = vn := ⟨_, rfl⟩
  rw [hvn2] at hvn hvI
  have HVN := Lib.hid hvn2
  clear hvn2 s0 s1 s2 r0 r1 r2 y0 y1 y2 hfin0
  have b4 := below_box W3 (.cells #[.int .i64 vn, .slice none 0 0, .slice none 0 0] 25)
  have aO := At.fresh W3 25 #[.int .i64 vn, .slice none 0 0, .slice none 0 0]
  obtain ⟨W4, hW4⟩ : ∃ W4, W3.alloc (.cells #[.int .i64 vn, .slice none 0 0, .slice none 0 0] 25) = W4 := ⟨_, rfl⟩
  rw [hW4] at b4 aO
  have hz4 : W4.heap.size = w.heap.size + 1 + 1 + 1 + 1 := by rw [← hW4]; simp [hz3]
  have aS4 := aS3.below b4 aS3.lt
  have aT4 := aT3.below b4 aT3.lt
  have aR4 := aR.below b4 aR.lt
  have hb4 := below_in hb3 b4
  rw [hz3] at aO
  have hkc := aT4.stmt.c0
  have htc := aT4.stmt.c1
  obtain ⟨-, -, -, -, -, -, -, -, -, -, -, -, -, d13, d14, d15, d16, -, -⟩ := aT4.stmt
  obtain ⟨s0, s1, s2⟩ := aS4.tri0
  obtain ⟨s0', -, -⟩ := aS3.tri0
  obtain ⟨p0, p1, p2⟩ := aO.tri0
  have hr0 : ¬ role < 0 := by omega
  have hr7 : ¬ 7 < role := by omega
  have e3 := hWc.out
  clear hWc
  subst e3
  have HX := Lib.hid (fun w' => HZ.out 1 w' (by decide) (fun X => .inr ⟨hr, .inl ⟨hd, rfl⟩⟩))
  have k6' : st.kind ≠ 6 := fun e => by rw [e] at hd; exact absurd hd (by decide)
  have k7' : st.kind ≠ 7 := fun e => by rw [e] at hd; exact absurd hd (by decide)
  have k8' : st.kind ≠ 8 := fun e => by rw [e] at hd; exact absurd hd (by decide)
  have k9' : st.kind ≠ 9 := fun e => by rw [e] at hd; exact absurd hd (by decide)
  have n6 : (st.kind == 6) = false := by simpa using k6'
  have n7 : (st.kind == 7) = false := by simpa using k7'
  have n8 : (st.kind == 8) = false := by simpa using k8'
  have n9 : (st.kind == 9) = false := by simpa using k9'
  clear k6' k7' k8' k9' hd HZ HF htc d13 d14 d15 d16 s0 s1 s2 p0 p1 p2 hvI
  generalize st.kind = kd at *
  subst hW4
  generalize st.cells = cs at *
  go_enter Tryz.func25, Tryz.ntmps25
  go_wp2_with fail
  exact bodyPost_ret (v := .tuple #[.agg #[.int .i64 0, .slice none 0 0, .slice none 0 0], .int .i64 1]) (by simp [results, Tryz.results25, go_sem]) rfl ⟨HX.out _, hb4⟩
set_option maxRecDepth 100000 in
set_option maxHeartbeats 12800000 in
theorem rapplyL_any (s : Sc) (role : Int) (st : St) (w : World) (hr : role < 0) :
    Calls Tryz.prog 25 #[s.val, .int .i64 role, st.val] w fun e w' => RpE s role st e w' ∧ Below w.heap.size w w' := by
  have HZ : Hid (∀ er w', er ≠ 0 → (∀ X, AppT s role st er X) → RpE s role st (.returned (.tuple #[.agg #[.int .i64 0, .slice none 0 0, .slice none 0 0], .int .i64 er])) w') := by
    show ∀ _, _
    exact fun er w' h1 h2 => ⟨noS, er, rfl, in_noS w', .inl ⟨h1, rfl, h2⟩⟩
  have HF : Hid (∀ o w', InS w' o → AppT s role st 0 (treeS o) → RpE s role st (.returned (.tuple #[o.val, .int .i64 0])) w') := by
    show ∀ _, _
    exact fun o w' h1 h2 => ⟨o, 0, rfl, h1, .inr ⟨rfl, h2⟩⟩
  have b1 := below_box w (.cells #[.int .i64 s.ver, .slice s.tA s.tn s.tcap, .slice s.gA s.gn s.gcap] 25)
  have aS := At.fresh w 25 #[.int .i64 s.ver, .slice s.tA s.tn s.tcap, .slice s.gA s.gn s.gcap]
  obtain ⟨W1, hW1⟩ : ∃ W1, w.alloc (.cells #[.int .i64 s.ver, .slice s.tA s.tn s.tcap, .slice s.gA s.gn s.gcap] 25) = W1 := ⟨_, rfl⟩
  rw [hW1] at b1 aS
  have hz1 : W1.heap.size = w.heap.size + 1 := by rw [← hW1]; simp
  have b2 := below_box W1 (.cells st.cells 34)
  have aT := At.fresh W1 34 st.cells
  obtain ⟨W2, hW2⟩ : ∃ W2, W1.alloc (.cells st.cells 34) = W2 := ⟨_, rfl⟩
  rw [hW2] at b2 aT
  have hz2 : W2.heap.size = w.heap.size + 1 + 1 := by rw [← hW2]; simp [hz1]
  have b3 := below_box W2 (.cells #[.int .i64 0, .slice none 0 0, .slice none 0 0] 25)
  have aR := At.fresh W2 25 #[.int .i64 0, .slice none 0 0, .slice none 0 0]
  obtain ⟨W3, hW3⟩ : ∃ W3, W2.alloc (.cells #[.int .i64 0, .slice none 0 0, .slice none 0 0] 25) = W3 := ⟨_, rfl⟩
  rw [hW3] at b3 aR
  have hz3 : W3.heap.size = w.heap.size + 1 + 1 + 1 := by rw [← hW3]; simp [hz2]
  have aS3 := (aS.below b2 aS.lt).below b3 (aS.below b2 aS.lt).lt
  have aT3 := aT.below b3 aT.lt
  have hb3 := below_in (below_in b1 b2) b3
  rw [hz1] at aT3
  rw [hz2] at aR
  have hWc := Lib.hid (show ((w.alloc (.cells #[.int .i64 s.ver, .slice s.tA s.tn s.tcap, .slice s.gA s.gn s.gcap] 25)).alloc (.cells st.cells 34)).alloc (.cells #[.int .i64 0, .slice none 0 0, .slice none 0 0] 25) = W3 by rw [hW1, hW2, hW3])
  clear hW1 hW2 hW3 aS aT b1 b2 b3
  obtain ⟨s0, s1, s2⟩ := aS3.tri0
  obtain ⟨r0, r1, r2⟩ := aR.tri0
  have y0 := aR.unfrozen 0
  have y1 := aR.unfrozen 1
  have y2 := aR.unfrozen 2
  have hfin0 := fun x y z => below_set3 (g := w.heap.size + 1 + 1) hb3 (by omega) x y z
  have HVAL : Hid (st.val = .agg st.cells) := rfl
  unfold Sc.val
  rw [HVAL.out]
  have HX := Lib.hid (fun w' => HZ.out 14 w' (by decide) (fun X => .inl ⟨by omega, rfl⟩))
  clear HZ HF
  go_enter Tryz.func25, Tryz.ntmps25
  go_wp2_with fail
  exact bodyPost_ret (v := .tuple #[.agg #[.int .i64 0, .slice none 0 0, .slice none 0 0], .int .i64 14]) (by simp [results, Tryz.results25, go_sem]) rfl ⟨HX.out _, by rw [hWc.out]; exact hb3⟩
set_option maxRecDepth 100000 in
set_option maxHeartbeats 12800000 in
theorem rapplyU_any (s : Sc) (role : Int) (st : St) (w : World) (hr : 7 < role) :
    Calls Tryz.prog 25 #[s.val, .int .i64 role, st.val] w fun e w' => RpE s role st e w' ∧ Below w.heap.size w w' := by
  have HZ : Hid (∀ er w', er ≠ 0 → (∀ X, AppT s role st er X) → RpE s role st (.returned (.tuple #[.agg #[.int .i64 0, .slice none 0 0, .slice none 0 0], .int .i64 er])) w') := by
    show ∀ _, _
    exact fun er w' h1 h2 => ⟨noS, er, rfl, in_noS w', .inl ⟨h1, rfl, h2⟩⟩
  have HF : Hid (∀ o w', InS w' o → AppT s role st 0 (treeS o) → RpE s role st (.returned (.tuple #[o.val, .int .i64 0])) w') := by
    show ∀ _, _
    exact fun o w' h1 h2 => ⟨o, 0, rfl, h1, .inr ⟨rfl, h2⟩⟩
  have b1 := below_box w (.cells #[.int .i64 s.ver, .slice s.tA s.tn s.tcap, .slice s.gA s.gn s.gcap] 25)
  have aS := At.fresh w 25 #[.int .i64 s.ver, .slice s.tA s.tn s.tcap, .slice s.gA s.gn s.gcap]
  obtain ⟨W1, hW1⟩ : ∃ W1, w.alloc (.cells #[.int .i64 s.ver, .slice s.tA s.tn s.tcap, .slice s.gA s.gn s.gcap] 25) = W1 := ⟨_, rfl⟩
  rw [hW1] at b1 aS
  have hz1 : W1.heap.size = w.heap.size + 1 := by rw [← hW1]; simp
  have b2 := below_box W1 (.cells st.cells 34)
  have aT := At.fresh W1 34 st.cells
  obtain ⟨W2, hW2⟩ : ∃ W2, W1.alloc (.cells st.cells 34) = W2 := ⟨_, rfl⟩
  rw [hW2] at b2 aT
  have hz2 : W2.heap.size = w.heap.size + 1 + 1 := by rw [← hW2]; simp [hz1]
  have b3 := below_box W2 (.cells #[.int .i64 0, .slice none 0 0, .slice none 0 0] 25)
  have aR := At.fresh W2 25 #[.int .i64 0, .slice none 0 0, .slice none 0 0]
  obtain ⟨W3, hW3⟩ : ∃ W3, W2.alloc (.cells #[.int .i64 0, .slice none 0 0, .slice none 0 0] 25) = W3 := ⟨_, rfl⟩
  rw [hW3] at b3 aR
  have hz3 : W3.heap.size = w.heap.size + 1 + 1 + 1 := by rw [← hW3]; simp [hz2]
  have aS3 := (aS.below b2 aS.lt).below b3 (aS.below b2 aS.lt).lt
  have aT3 := aT.below b3 aT.lt
  have hb3 := below_in (below_in b1 b2) b3
  rw [hz1] at aT3
  rw [hz2] at aR
  have hWc := Lib.hid (show ((w.alloc (.cells #[.int .i64 s.ver, .slice s.tA s.tn s.tcap, .slice s.gA s.gn s.gcap] 25)).alloc (.cells st.cells 34)).alloc (.cells #[.int .i64 0, .slice none 0 0, .slice none 0 0] 25) = W3 by rw [hW1, hW2, hW3])
  clear hW1 hW2 hW3 aS aT b1 b2 b3
  obtain ⟨s0, s1, s2⟩ := aS3.tri0
  obtain ⟨r0, r1, r2⟩ := aR.tri0
  have y0 := aR.unfrozen 0
  have y1 := aR.unfrozen 1
  have y2 := aR.unfrozen 2
  have hfin0 := fun x y z => below_set3 (g := w.heap.size + 1 + 1) hb3 (by omega) x y z
  have HVAL : Hid (st.val = .agg st.cells) := rfl
  unfold Sc.val
  rw [HVAL.out]
  have HX := Lib.hid (fun w' => HZ.out 14 w' (by decide) (fun X => .inl ⟨by omega, rfl⟩))
  have hr0 : ¬ role < 0 := by omega
  clear HZ HF
  go_enter Tryz.func25, Tryz.ntmps25
  go_wp2_with fail
  exact bodyPost_ret (v := .tuple #[.agg #[.int .i64 0, .slice none 0 0, .slice none 0 0], .int .i64 14]) (by simp [results, Tryz.results25, go_sem]) rfl ⟨HX.out _, by rw [hWc.out]; exact hb3⟩
end Go.Proofs.YtnhalfdddcjicaaGreat

namespace Go.Proofs.YtnhalfdddcjicaaGreat
open Go.RowKit

section
variable {w w' : World} {R : Nat} (hR : ∀ i x, w.cell? ⟨R, i, none⟩ ≠ some (.string x)) (hsz : w.heap.size ≤ w'.heap.size) (hk : ∀ b, b ≠ R → ∀ i, w'.cell? ⟨b, i, none⟩ = w.cell? ⟨b, i, none⟩)
include hR hsz hk
theorem InE.apart : ∀ {e : Ex}, InE w e → InE w' e
  | .nil, h => h
  | .mk op col v A n cap arg, h => by
    rw [InE] at h ⊢
    obtain ⟨h1, h2, h3, h4, h5⟩ := h
    refine ⟨h1, h2, h3, h4, fun hn => ?_⟩
    obtain ⟨b, off, e1, e2, e3⟩ := h5 hn
    have hb : b ≠ R := fun e => hR _ _ (e ▸ (e3 0 hn).1.2.2.2.2.1)
    exact ⟨b, off, e1, Nat.lt_of_lt_of_le e2 hsz, fun j hj => ⟨(e3 j hj).1.keep fun i => hk b hb i, InE.apart (e3 j hj).2⟩⟩
theorem InT.apart {t : Tb} (h : InT w t) : InT w' t := by
  refine ⟨h.owner, h.name, h.cmax, h.emax, ?_, fun hn => ?_⟩
  · refine ⟨h.cols.1, h.cols.2.1, fun hn => ?_⟩
    obtain ⟨b, off, e1, e2, e3⟩ := h.cols.2.2 hn
    have hb : b ≠ R := fun e => hR _ _ (e ▸ (e3 0 hn).1)
    exact ⟨b, off, e1, Nat.lt_of_lt_of_le e2 hsz, fun j hj => (e3 j hj).keep fun i => hk b hb i⟩
  · obtain ⟨b, off, e1, e2, e3⟩ := h.chk hn
    have hb : b ≠ R := fun e => hR _ _ (e ▸ (e3 0 hn).1.2.2.2.2.1)
    exact ⟨b, off, e1, Nat.lt_of_lt_of_le e2 hsz, fun j hj => ⟨(e3 j hj).1.keep fun i => hk b hb i, InE.apart hR hsz hk (e3 j hj).2⟩⟩
theorem InS.apart {s : Sc} (h : InS w s) : InS w' s := by
  refine ⟨h.ver, h.tmax, h.gmax, fun hn => ?_, h.grants.1, h.grants.2.1, fun hn => ?_⟩
  · obtain ⟨b, off, e1, e2, e3⟩ := h.tabs hn
    have hb : b ≠ R := fun e => hR _ _ (e ▸ (e3 0 hn).1.1)
    exact ⟨b, off, e1, Nat.lt_of_lt_of_le e2 hsz, fun j hj => ⟨(e3 j hj).1.keep fun i => hk b hb i, InT.apart hR hsz hk (e3 j hj).2⟩⟩
  · obtain ⟨b, off, e1, e2, e3⟩ := h.grants.2.2 hn
    have hb : b ≠ R := fun e => hR _ _ (e ▸ (e3 0 hn).2.1)
    exact ⟨b, off, e1, Nat.lt_of_lt_of_le e2 hsz, fun j hj => (e3 j hj).keep fun i => hk b hb i⟩
end
theorem set3_size (w : World) (g : Nat) (x y z : Value) : (((w.setCell ⟨g, 0, none⟩ x).setCell ⟨g, 1, none⟩ y).setCell ⟨g, 2, none⟩ z).heap.size = w.heap.size := by simp [World.setCell]
/-- A schema whose result is laid where no string lies. -/
theorem InS.set3 {w : World} {s : Sc} {g : Nat} {t : TypeId} {v : Int} {A A' : Option Addr} {n n' c c' : Nat} (h : InS w s) (hR : At w g t #[.int .i64 v, .slice A n c, .slice A' n' c']) (x y z : Value) : InS (((w.setCell ⟨g, 0, none⟩ x).setCell ⟨g, 1, none⟩ y).setCell ⟨g, 2, none⟩ z) s := by
  refine h.apart (R := g) (fun i u hu => ?_) (by rw [set3_size]; exact Nat.le_refl _) (fun b hb i => ?_)
  · rw [hR.cell i] at hu
    match i, hu with
    | 0, hu => simp at hu
    | 1, hu => simp at hu
    | 2, hu => simp at hu
    | i + 3, hu => simp at hu
  · exact World.cell?_of_block (w := w) ((Below.heap_setCell _ _ _ _ (fun e : b = g => hb e)).trans ((Below.heap_setCell _ _ _ _ (fun e : b = g => hb e)).trans (Below.heap_setCell _ _ _ _ (fun e : b = g => hb e))))
end Go.Proofs.YtnhalfdddcjicaaGreat

namespace Go.Proofs.YtnhalfdddcjicaaGreat
open Go.RowKit

theorem rapply_any (s : Sc) (role : Int) (st : St) (w : World) (hs : InS w s) (hst : InSt w st) (hrole : I64 role) (hwd : wtT st.def_ ≤ 1048576) (htn : s.tn ≤ 100000) (hsg : SortedG s.grants) :
    Calls Tryz.prog 25 #[s.val, .int .i64 role, st.val] w fun e w' => RpE s role st e w' ∧ Below w.heap.size w w' := by
  rcases (show role < 0 ∨ 7 < role ∨ (0 ≤ role ∧ role ≤ 7) by omega) with hr | hr | hr
  · exact rapplyL_any s role st w hr
  · exact rapplyU_any s role st w hr
  · cases hd : isD st.kind with
    | false => exact rapplyD_any s role st w hs hst hrole hwd htn hsg hr hd
    | true =>
      have hk : st.kind = 6 ∨ st.kind = 7 ∨ st.kind = 8 ∨ st.kind = 9 := by
        simp [isD] at hd; omega
      rcases hk with k | k | k | k
      · exact rapply6_any s role st w hs hst hrole hwd htn hsg hr k
      · exact rapply7_any s role st w hs hst hrole hwd htn hsg hr k
      · exact rapply8_any s role st w hs hst hrole hwd htn hsg hr k
      · exact rapply9_any s role st w hs hst hrole hwd htn hsg hr k

theorem AppF.err {s : Sc} {role : Int} {st : St} {er : Int} (h : er ≠ 0) (hX : AppT s role st er ⟨0, [], []⟩) : AppF s role st er noS :=
  ⟨er, _, hX, .inl ⟨h, rfl, rfl⟩⟩

set_option maxRecDepth 100000 in
set_option maxHeartbeats 6400000 in
theorem rApply_any (s : Sc) (role : Int) (st : St) (w : World) (hs : InS w s) (hst : InSt w st) (hrole : I64 role) (hwd : wtT st.def_ ≤ 1048576) (htn : s.tn ≤ 100000) (hsg : SortedG s.grants) (hlen : ∀ X, AppT s role st 0 X → (encSd X).length ≤ 100000000) :
    Calls Tryz.prog 11 #[s.val, .int .i64 role, st.val] w fun e w' => ApE s role st e w' ∧ Below w.heap.size w w' := by
  have HZ : Hid (∀ er w', AppF s role st er noS → ApE s role st (.returned (.tuple #[.agg #[.int .i64 0, .slice none 0 0, .slice none 0 0], .int .i64 er])) w') := by
    show ∀ _, _
    exact fun er w' h => ⟨noS, er, rfl, in_noS w', fun _ => h⟩
  have HF : Hid (∀ o w', InS w' o → AppF s role st 0 o → ApE s role st (.returned (.tuple #[o.val, .int .i64 0])) w') := by
    show ∀ _, _
    exact fun o w' h1 h2 => ⟨o, 0, rfl, h1, fun _ => h2⟩
  have b1 := below_box w (.cells #[.int .i64 s.ver, .slice s.tA s.tn s.tcap, .slice s.gA s.gn s.gcap] 25)
  have aS := At.fresh w 25 #[.int .i64 s.ver, .slice s.tA s.tn s.tcap, .slice s.gA s.gn s.gcap]
  obtain ⟨W1, hW1⟩ : ∃ W1, w.alloc (.cells #[.int .i64 s.ver, .slice s.tA s.tn s.tcap, .slice s.gA s.gn s.gcap] 25) = W1 := ⟨_, rfl⟩
  rw [hW1] at b1 aS
  have hz1 : W1.heap.size = w.heap.size + 1 := by rw [← hW1]; simp
  have b2 := below_box W1 (.cells st.cells 34)
  have aT := At.fresh W1 34 st.cells
  obtain ⟨W2, hW2⟩ : ∃ W2, W1.alloc (.cells st.cells 34) = W2 := ⟨_, rfl⟩
  rw [hW2] at b2 aT
  have hz2 : W2.heap.size = w.heap.size + 1 + 1 := by rw [← hW2]; simp [hz1]
  have b3 := below_box W2 (.cells #[.int .i64 0, .slice none 0 0, .slice none 0 0] 25)
  have aR := At.fresh W2 25 #[.int .i64 0, .slice none 0 0, .slice none 0 0]
  obtain ⟨W3, hW3⟩ : ∃ W3, W2.alloc (.cells #[.int .i64 0, .slice none 0 0, .slice none 0 0] 25) = W3 := ⟨_, rfl⟩
  rw [hW3] at b3 aR
  have hz3 : W3.heap.size = w.heap.size + 1 + 1 + 1 := by rw [← hW3]; simp [hz2]
  have aS3 := (aS.below b2 aS.lt).below b3 (aS.below b2 aS.lt).lt
  have aT3 := aT.below b3 aT.lt
  have hb3 := below_in (below_in b1 b2) b3
  rw [hz1] at aT3
  rw [hz2] at aR
  have hWc := Lib.hid (show ((w.alloc (.cells #[.int .i64 s.ver, .slice s.tA s.tn s.tcap, .slice s.gA s.gn s.gcap] 25)).alloc (.cells st.cells 34)).alloc (.cells #[.int .i64 0, .slice none 0 0, .slice none 0 0] 25) = W3 by rw [hW1, hW2, hW3])
  clear hW1 hW2 hW3 aS aT b1 b2 b3
  have hAp := rapply_any s role st W3 (hs.below hb3) (hst.below hb3) hrole hwd htn hsg
  obtain ⟨s0, s1, s2⟩ := aS3.tri0
  have HVAL : Hid (st.val = .agg st.cells) := rfl
  unfold Sc.val at hAp ⊢
  rw [HVAL.out] at hAp ⊢
  have e3 := hWc.out
  clear hWc
  subst e3
  go_enter Tryz.func11, Tryz.ntmps11
  go_wp2_with (refine wpList_load_st rfl (.tmp 5) rfl (w.heap.size + 1) st rfl aT3 ?_)
  refine hAp.mono ?_
  rintro e w1 ⟨⟨o, er, rfl, ho, hcase⟩, hB1⟩
  have hb1 := below_in hb3 hB1
  have aR1 := aR.below hB1 aR.lt
  have b4 := below_box w1 (.cells #[.int .i64 o.ver, .slice o.tA o.tn o.tcap, .slice o.gA o.gn o.gcap] 25)
  have aO := At.fresh w1 25 #[.int .i64 o.ver, .slice o.tA o.tn o.tcap, .slice o.gA o.gn o.gcap]
  have hW4 : Hid (w1.alloc (.cells #[.int .i64 o.ver, .slice o.tA o.tn o.tcap, .slice o.gA o.gn o.gcap] 25) = w1.alloc (.cells #[.int .i64 o.ver, .slice o.tA o.tn o.tcap, .slice o.gA o.gn o.gcap] 25)) := rfl
  have hz1 := hB1.1
  have aR2 := aR1.below b4 aR1.lt
  have hb4 := below_in hb1 b4
  have ho4 := ho.below b4
  unfold Sc.val
  obtain ⟨s0', s1', s2'⟩ := aO.tri0
  obtain ⟨r0, r1, r2⟩ := aR2.tri0
  have y0 := aR2.unfrozen 0
  have y1 := aR2.unfrozen 1
  have y2 := aR2.unfrozen 2
  have hfin := fun x y z => below_set3 (g := w.heap.size + 1 + 1) hb4 (by omega) x y z
  rcases hcase with ⟨hne, hoS, hX⟩ | ⟨rfl, hX⟩
  · have her : (er == 0) = false := by simpa using hne
    have HX := Lib.hid (fun w' => HZ.out er w' (AppF.err hne (hX _)))
    have HO := Lib.hid hoS
    clear HZ HF hX hlen hoS
    go_wp2_with fail
    exact bodyPost_ret (v := .tuple #[.agg #[.int .i64 o.ver, .slice o.tA o.tn o.tcap, .slice o.gA o.gn o.gcap], .int .i64 er]) (by simp [results, Tryz.results11, go_sem, r0, r1, r2]) rfl ⟨by rw [HO.out]; exact HX.out _, hfin _ _ _⟩
  · have hBy := rbytesS_any o _ ho4 (hlen _ hX)
    unfold Sc.val at hBy
    have HEO := Lib.hid hX
    have hl8 := hlen _ hX
    clear hX hlen
    have HIN := Lib.hid ho4
    clear aT3 hs hst hAp ho ho4
    go_wp2_with fail
    refine hBy.mono ?_
    rintro e w2 ⟨rfl, hB2⟩
    have hb5 := below_in hb4 hB2
    have aR5 := aR2.below hB2 aR2.lt
    have aO5 := aO.below hB2 aO.lt
    have HIN2 := Lib.hid (HIN.out.below hB2)
    clear r0 r1 r2 y0 y1 y2 hfin s0' s1' s2' HIN
    obtain ⟨s0', s1', s2'⟩ := aO5.tri0
    obtain ⟨r0, r1, r2⟩ := aR5.tri0
    have y0 := aR5.unfrozen 0
    have y1 := aR5.unfrozen 1
    have y2 := aR5.unfrozen 2
    have hfin := fun x y z => below_set3 (g := w.heap.size + 1 + 1) hb5 (by omega) x y z
    by_cases hlt : 8192 < (encSd (treeS o)).length
    · have q1 : (8192 : Int) < ((encSd (treeS o)).length : Int) := by omega
      have HX := Lib.hid (fun w' => HZ.out 3 w' ⟨0, _, HEO.out, .inr (.inl ⟨rfl, hlt, rfl, rfl⟩)⟩)
      clear HZ HF
      go_wp2_with fail
      exact bodyPost_ret (v := .tuple #[.agg #[.int .i64 0, .slice none 0 0, .slice none 0 0], .int .i64 3]) (by simp [results, Tryz.results11, go_sem, r0, r1, r2]) rfl ⟨HX.out _, hfin _ _ _⟩
    · have q1 : ¬ (8192 : Int) < ((encSd (treeS o)).length : Int) := by omega
      have HX := Lib.hid (fun w' (h : InS w' o) => HF.out o w' h ⟨0, _, HEO.out, .inr (.inr ⟨rfl, by omega, rfl, rfl⟩)⟩)
      have HK := Lib.hid (fun x y z => HIN2.out.set3 aR5 x y z)
      clear HZ HF
      go_wp2_with fail
      exact bodyPost_ret (v := .tuple #[.agg #[.int .i64 o.ver, .slice o.tA o.tn o.tcap, .slice o.gA o.gn o.gcap], .int .i64 0]) (by simp [results, Tryz.results11, go_sem, r0, r1, r2]) rfl ⟨HX.out _ (HK.out _ _ _), hfin _ _ _⟩
end Go.Proofs.YtnhalfdddcjicaaGreat
