/- The writer's expressions and tables, and their lists; schema.Bytes. -/
import Derived.Test.YtlkeagfmlcbogaaQSTa
namespace Go.Proofs.Ytlkeagfmlcbogaa
open Go.RowKit

/-- What putExpr does with an expression, wherever the writer stands. -/
def PutsE (B b : Nat) (w0 : World) (e : Ex) : Prop := ∀ (w' : World) (y : List UInt8), Wr B b w' y → Below B w0 w' → y.length + (encE (treeE e)).length ≤ 90000000 →
  Calls Try.prog 49 #[.pointer (some ⟨b, 0, none⟩), e.val] w' fun en w2 => Put B b w' (y ++ encE (treeE e)) en w2

set_option maxRecDepth 100000 in
set_option maxHeartbeats 1600000 in
theorem putLE_any (B b : Nat) (w0 w : World) (xs : List UInt8) (A : Option Addr) (n cap : Nat) (arg : Nat → Ex) (h : Wr B b w xs) (hB : B = w0.heap.size) (h0 : Below B w0 w) (hr : RowE w0 A n arg) (hn : n ≤ maxLen) (hput : ∀ j, j < n → PutsE B b w0 (arg j)) (hl : xs.length + ((enc (n : Int)).length + (flE arg n).length) ≤ 90000000) :
    Calls Try.prog 48 #[.pointer (some ⟨b, 0, none⟩), .slice A n cap, .func (.func 49) #[] #[]] w fun e w' => Put B b w (xs ++ (enc (n : Int) ++ flE arg n)) e w' := by
  subst hB
  unfold maxLen at hn
  have hI : I64 (n : Int) := by unfold I64; omega
  have hC := putI1 w0.heap.size b w xs (n : Int) h hI (by omega)
  have hBw := h.2.1
  clear hI
  go_enter Try.func48, Try.ntmps48
  go_wp2_with fail
  refine hC.mono ?_
  rintro e w1 ⟨rfl, hw1, hb1, hk1⟩
  clear hC h
  go_wp2_with fail
  go_loopw [15] (fun i wr => ∃ (k : Nat) (y : List UInt8), k ≤ n ∧ i = .int .i64 k ∧ Hid (y = xs ++ (enc (n : Int) ++ flE arg k)) ∧ Wr w0.heap.size b wr y ∧ Below w0.heap.size w wr ∧ Kps b w wr) (fun i _ => n - (intOf i).toNat)
  case atStart => exact ⟨0, xs ++ enc (n : Int), by omega, rfl, show _ = _ by simp [flE], hw1, hb1, hk1⟩
  case round =>
    obtain ⟨k, y, hk, rfl, HY, hwr, hbr, hkr⟩ := hrel
    clear hw1 hb1 hk1
    by_cases hlt : k < n
    · obtain ⟨cb, coff, rfl, hcbl, hcell⟩ := hr (by omega)
      have hbz := h0.trans hbr
      obtain ⟨x0, x1, x2, x3, x4, x5⟩ := (hcell k hlt).1.keep fun i => hbz.cell (p := ⟨cb, i, none⟩) hcbl
      have hin := (hcell k hlt).2
      have hs := flE_succ arg k
      have hle := flE_le arg (k := k + 1) (n := n) hlt
      rw [hs, List.length_append] at hle
      have HK : Hid (y ++ encE (treeE (arg k)) = xs ++ (enc (n : Int) ++ flE arg (k + 1))) := by show _ = _; rw [hs, HY.out]; simp only [List.append_assoc]
      have hyl : y.length ≤ xs.length + ((enc (n : Int)).length + (flE arg k).length) := by rw [HY.out]; simp only [List.length_append]; omega
      clear hs hcell
      have hBr : w0.heap.size ≤ wr.heap.size := hwr.2.1
      have hbz2 : Below w0.heap.size w0 (wr.alloc (.cells #[.int .i64 (arg k).op, .int .i64 (arg k).col, .int .i64 (arg k).v.kind, .int .i64 (arg k).v.num, .string ⟨(arg k).v.text.toArray⟩, .slice (arg k).A (arg k).n (arg k).cap] 45)) := hbz.alloc hBr _
      have hP := hput k hlt (wr.alloc (.cells #[.int .i64 (arg k).op, .int .i64 (arg k).col, .int .i64 (arg k).v.kind, .int .i64 (arg k).v.num, .string ⟨(arg k).v.text.toArray⟩, .slice (arg k).A (arg k).n (arg k).cap] 45)) y (hwr.alloc _) hbz2 (by omega)
      unfold Ex.val at hP
      clear hin
      go_wp2_with fail
      refine hP.mono ?_
      rintro e w3 ⟨rfl, hw3, hb3, hk3⟩
      have hb4 := hbr.trans (((Below.refl w0.heap.size wr).alloc hBr _).trans hb3)
      have hk4 := hkr.trans hk3.alloc_l
      clear hP
      go_wp2_with fail
      exact ⟨⟨k + 1, _, by omega, by go_num, HK, hw3, hb4, hk4⟩, by simp [intOf]; omega⟩
    · obtain rfl : n = k := by omega
      go_wp2_with fail
      go_end0
      exact ⟨rfl, by rw [HY.out] at hwr; exact hwr, hbr, hkr⟩

set_option maxRecDepth 100000 in
set_option maxHeartbeats 1600000 in
theorem putE_any (B b : Nat) (w0 : World) (hB : B = w0.heap.size) (e : Ex) : InE w0 e → PutsE B b w0 e := by
  induction e with
  | nil => intro h; exact h.elim
  | mk op col v A n cap arg ih =>
    intro hin w xs h h0 hl
    rw [InE] at hin
    obtain ⟨i1, i2, hv, hn, harg⟩ := hin
    have hE : encE (treeE (.mk op col v A n cap arg)) = (enc op ++ enc col) ++ (bytesV v ++ (enc (n : Int) ++ flE arg n)) := by rw [encE_tree]; unfold flE; simp only [List.append_assoc]
    have hput : ∀ j, j < n → PutsE B b w0 (arg j) := fun j hj => by
      obtain ⟨_, _, _, _, hc⟩ := harg (by omega)
      exact ih j (hc j hj).2
    have hrow : RowE w0 A n arg := harg
    rw [hE] at hl ⊢
    clear hE ih harg
    simp only [List.length_append] at hl
    obtain ⟨vk, vn, vt⟩ := v
    simp only [Ex.val, Ex.op, Ex.col, Ex.v, Ex.A, Ex.n, Ex.cap]
    have aV := At.fresh w 45 #[.int .i64 op, .int .i64 col, .int .i64 vk, .int .i64 vn, .string ⟨vt.toArray⟩, .slice A n cap]
    have hw := h.alloc (.cells #[.int .i64 op, .int .i64 col, .int .i64 vk, .int .i64 vn, .string ⟨vt.toArray⟩, .slice A n cap] 45)
    have hb0 : Below B w (w.alloc (.cells #[.int .i64 op, .int .i64 col, .int .i64 vk, .int .i64 vn, .string ⟨vt.toArray⟩, .slice A n cap] 45)) := (Below.refl _ _).alloc h.2.1 _
    have hC := putI2 B b _ xs op col hw i1 i2 (by omega)
    simp only [World.size_alloc] at hC
    have hwl := h.lt
    have HV := Lib.hid hv
    clear hv i1 i2
    go_enter Try.func49, Try.ntmps49
    go_wp2_with fail
    refine hC.mono ?_
    rintro e w1 ⟨rfl, hw1, hb1, hk1⟩
    have aV1 := hk1 _ _ _ aV (by decide) (by omega)
    obtain ⟨c0, c1, c2, c3, c4, c5⟩ := aV1.six
    have hC2 := putV_any B b _ _ ⟨vk, vn, vt⟩ hw1 HV.out (by simp only [List.length_append]; omega)
    unfold Vl.val at hC2
    go_wp2_with fail
    refine hC2.mono ?_
    rintro e w2 ⟨rfl, hw2, hb2, hk2⟩
    have aV2 := hk2 _ _ _ aV1 (by decide) (by omega)
    clear c0 c1 c2 c3 c4 c5
    obtain ⟨c0, c1, c2, c3, c4, c5⟩ := aV2.six
    have hC3 := putLE_any B b w0 _ _ A n cap arg hw2 hB (h0.trans (hb0.trans (hb1.trans hb2))) hrow hn hput (by simp only [List.length_append]; omega)
    go_wp2_with fail
    refine hC3.mono ?_
    rintro e w3 ⟨rfl, hw3, hb3, hk3⟩
    go_wp2_with fail
    go_end0
    refine ⟨rfl, ?_, hb0.trans (hb1.trans (hb2.trans hb3)), (Kps.trans hk1 (Kps.trans hk2 hk3)).alloc_l⟩
    simp only [List.append_assoc] at hw3 ⊢
    exact hw3

set_option maxRecDepth 100000 in
set_option maxHeartbeats 1600000 in
theorem putT_any (B b : Nat) (w0 : World) (hB : B = w0.heap.size) (t : Tb) (hin : InT w0 t) (w : World) (xs : List UInt8) (h : Wr B b w xs) (h0 : Below B w0 w) (hl : xs.length + (encT (treeT t)).length ≤ 90000000) :
    Calls Try.prog 18 #[.pointer (some ⟨b, 0, none⟩), t.val] w fun en w2 => Put B b w (xs ++ encT (treeT t)) en w2 := by
  obtain ⟨nm, ow, cA, cn, ccap, cols, eA, en, ecap, chk⟩ := t
  obtain ⟨iow, -, hcm, hem, hC, hE⟩ := hin
  simp only at iow hcm hem hC hE
  have hput : ∀ j, j < en → PutsE B b w0 (chk j) := fun j hj => by
    obtain ⟨_, _, _, _, hc⟩ := hE (by omega)
    exact putE_any B b w0 hB (chk j) (hc j hj).2
  have hTi : encT (treeT ⟨nm, ow, cA, cn, ccap, cols, eA, en, ecap, chk⟩) = encS nm ++ (enc ow ++ ((enc (cn : Int) ++ flC cols cn) ++ (enc (en : Int) ++ flE chk en))) := by
    rw [encT_is nm ow cA cn ccap cols eA en ecap chk hC.1]; simp only [List.append_assoc]
  rw [hTi] at hl ⊢
  clear hTi
  simp only [List.length_append] at hl
  simp only [Tb.val]
  have aV := At.fresh w 39 #[.string ⟨nm.toArray⟩, .int .i64 ow, .slice cA cn ccap, .slice eA en ecap]
  have hw := h.alloc (.cells #[.string ⟨nm.toArray⟩, .int .i64 ow, .slice cA cn ccap, .slice eA en ecap] 39)
  have hb0 : Below B w (w.alloc (.cells #[.string ⟨nm.toArray⟩, .int .i64 ow, .slice cA cn ccap, .slice eA en ecap] 39)) := (Below.refl _ _).alloc h.2.1 _
  have hC1 := putS1 B b _ xs nm hw (by omega)
  simp only [World.size_alloc] at hC1
  have hwl := h.lt
  go_enter Try.func18, Try.ntmps18
  go_wp2_with fail
  refine hC1.mono ?_
  rintro e w1 ⟨rfl, hw1, hb1, hk1⟩
  have aV1 := hk1 _ _ _ aV (by decide) (by omega)
  obtain ⟨c0, c1, c2, c3, -⟩ := aV1.four
  have hC2 := putI1 B b _ _ ow hw1 iow (by simp only [List.length_append]; omega)
  go_wp2_with fail
  refine hC2.mono ?_
  rintro e w2 ⟨rfl, hw2, hb2, hk2⟩
  have aV2 := hk2 _ _ _ aV1 (by decide) (by omega)
  clear c0 c1 c2 c3
  obtain ⟨c0, c1, c2, c3, -⟩ := aV2.four
  have hb02 := hb0.trans (hb1.trans hb2)
  have hC3 := putLC_any B b w0 _ _ cA cn ccap cols hw2 hB (h0.trans hb02) hC hcm (by simp only [List.length_append]; omega)
  go_wp2_with fail
  refine hC3.mono ?_
  rintro e w3 ⟨rfl, hw3, hb3, hk3⟩
  have aV3 := hk3 _ _ _ aV2 (by decide) (by omega)
  clear c0 c1 c2 c3
  obtain ⟨c0, c1, c2, c3, -⟩ := aV3.four
  have hb03 := hb02.trans hb3
  have hC4 := putLE_any B b w0 _ _ eA en ecap chk hw3 hB (h0.trans hb03) hE hem hput (by simp only [List.length_append]; omega)
  go_wp2_with fail
  refine hC4.mono ?_
  rintro e w4 ⟨rfl, hw4, hb4, hk4⟩
  go_wp2_with fail
  go_end0
  refine ⟨rfl, ?_, hb03.trans hb4, (Kps.trans hk1 (Kps.trans hk2 (Kps.trans hk3 hk4))).alloc_l⟩
  simp only [List.append_assoc] at hw4 ⊢
  exact hw4

set_option maxRecDepth 100000 in
set_option maxHeartbeats 1600000 in
theorem putLT_any (B b : Nat) (w0 w : World) (xs : List UInt8) (A : Option Addr) (n cap : Nat) (arg : Nat → Tb) (h : Wr B b w xs) (hB : B = w0.heap.size) (h0 : Below B w0 w) (hr : RowT w0 A n arg) (hn : n ≤ maxLen) (hl : xs.length + ((enc (n : Int)).length + (flT arg n).length) ≤ 90000000) :
    Calls Try.prog 17 #[.pointer (some ⟨b, 0, none⟩), .slice A n cap, .func (.func 18) #[] #[]] w fun e w' => Put B b w (xs ++ (enc (n : Int) ++ flT arg n)) e w' := by
  subst hB
  unfold maxLen at hn
  have hI : I64 (n : Int) := by unfold I64; omega
  have hC := putI1 w0.heap.size b w xs (n : Int) h hI (by omega)
  have hBw := h.2.1
  clear hI
  go_enter Try.func17, Try.ntmps17
  go_wp2_with fail
  refine hC.mono ?_
  rintro e w1 ⟨rfl, hw1, hb1, hk1⟩
  clear hC h
  go_wp2_with fail
  go_loopw [15] (fun i wr => ∃ (k : Nat) (y : List UInt8), k ≤ n ∧ i = .int .i64 k ∧ Hid (y = xs ++ (enc (n : Int) ++ flT arg k)) ∧ Wr w0.heap.size b wr y ∧ Below w0.heap.size w wr ∧ Kps b w wr) (fun i _ => n - (intOf i).toNat)
  case atStart => exact ⟨0, xs ++ enc (n : Int), by omega, rfl, show _ = _ by simp [flT], hw1, hb1, hk1⟩
  case round =>
    obtain ⟨k, y, hk, rfl, HY, hwr, hbr, hkr⟩ := hrel
    clear hw1 hb1 hk1
    by_cases hlt : k < n
    · obtain ⟨cb, coff, rfl, hcbl, hcell⟩ := hr (by omega)
      have hbz := h0.trans hbr
      obtain ⟨x0, x1, x2, x3⟩ := (hcell k hlt).1.keep fun i => hbz.cell (p := ⟨cb, i, none⟩) hcbl
      have hin := (hcell k hlt).2
      have hs := flT_succ arg k
      have hle := flT_le arg (k := k + 1) (n := n) hlt
      rw [hs, List.length_append] at hle
      have HK : Hid (y ++ encT (treeT (arg k)) = xs ++ (enc (n : Int) ++ flT arg (k + 1))) := by show _ = _; rw [hs, HY.out]; simp only [List.append_assoc]
      have hyl : y.length ≤ xs.length + ((enc (n : Int)).length + (flT arg k).length) := by rw [HY.out]; simp only [List.length_append]; omega
      clear hs hcell
      have hBr : w0.heap.size ≤ wr.heap.size := hwr.2.1
      have hbz2 : Below w0.heap.size w0 (wr.alloc (.cells #[.string ⟨(arg k).name.toArray⟩, .int .i64 (arg k).owner, .slice (arg k).cA (arg k).cn (arg k).ccap, .slice (arg k).eA (arg k).en (arg k).ecap] 39)) := hbz.alloc hBr _
      have hP := putT_any w0.heap.size b w0 rfl (arg k) hin (wr.alloc (.cells #[.string ⟨(arg k).name.toArray⟩, .int .i64 (arg k).owner, .slice (arg k).cA (arg k).cn (arg k).ccap, .slice (arg k).eA (arg k).en (arg k).ecap] 39)) y (hwr.alloc _) hbz2 (by omega)
      unfold Tb.val at hP
      clear hin
      go_wp2_with fail
      refine hP.mono ?_
      rintro e w3 ⟨rfl, hw3, hb3, hk3⟩
      have hb4 := hbr.trans (((Below.refl w0.heap.size wr).alloc hBr _).trans hb3)
      have hk4 := hkr.trans hk3.alloc_l
      clear hP
      go_wp2_with fail
      exact ⟨⟨k + 1, _, by omega, by go_num, HK, hw3, hb4, hk4⟩, by simp [intOf]; omega⟩
    · obtain rfl : n = k := by omega
      go_wp2_with fail
      go_end0
      exact ⟨rfl, by rw [HY.out] at hwr; exact hwr, hbr, hkr⟩
end Go.Proofs.Ytlkeagfmlcbogaa
