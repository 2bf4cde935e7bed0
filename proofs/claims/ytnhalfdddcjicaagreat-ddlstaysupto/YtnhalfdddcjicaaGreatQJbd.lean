/- The writer's expressions and tables, and their lists; schema.Bytes. -/
/- schema.Bytes. -/
/- The walk of Apply. -/
import Derived.Test.YtnhalfdddcjicaaGreatQJbc
import Derived.Test.YtnhalfdddcjicaaGreatQJbb
import Derived.Deep.MidRow
namespace Go.Proofs.YtnhalfdddcjicaaGreat
open Go.RowKit

/-- What putExpr does with an expression, wherever the writer stands. -/
def PutsE (B b : Nat) (w0 : World) (e : Ex) : Prop := ∀ (w' : World) (y : List UInt8), Wr B b w' y → Below B w0 w' → y.length + (encE (treeE e)).length ≤ 90000000 →
  Calls Tryz.prog 84 #[.pointer (some ⟨b, 0, none⟩), e.val] w' fun en w2 => Put B b w' (y ++ encE (treeE e)) en w2

set_option maxRecDepth 100000 in
set_option maxHeartbeats 1600000 in
theorem putLE_any (B b : Nat) (w0 w : World) (xs : List UInt8) (A : Option Addr) (n cap : Nat) (arg : Nat → Ex) (h : Wr B b w xs) (hB : B = w0.heap.size) (h0 : Below B w0 w) (hr : RowE w0 A n arg) (hn : n ≤ maxLen) (hput : ∀ j, j < n → PutsE B b w0 (arg j)) (hl : xs.length + ((enc (n : Int)).length + (flE arg n).length) ≤ 90000000) :
    Calls Tryz.prog 83 #[.pointer (some ⟨b, 0, none⟩), .slice A n cap, .func (.func 84) #[] #[]] w fun e w' => Put B b w (xs ++ (enc (n : Int) ++ flE arg n)) e w' := by
  subst hB
  unfold maxLen at hn
  have hI : I64 (n : Int) := by unfold I64; omega
  have hC := putI1 w0.heap.size b w xs (n : Int) h hI (by omega)
  have hBw := h.2.1
  clear hI
  go_enter Tryz.func83, Tryz.ntmps83
  go_wp2_with fail
  refine hC.mono ?_
  rintro e w1 ⟨rfl, hw1, hb1, hk1⟩
  clear hC h
  go_wp2_with fail
  go_loopw [15] (fun i wr => ∃ (k : Nat) (y : List UInt8), k ≤ n ∧ i = .int .i64 k ∧ Hid (y = xs ++ (enc (n : Int) ++ flE arg k)) ∧ Wr w0.heap.size b wr y ∧ Below w0.heap.size w wr ∧ Kps b w wr) (fun i _ => n - (intOf i).toNat)
  case atStart => exact ⟨0, xs ++ enc (n : Int), by omega, rfl, show _ = _ by simp [flE], hw1, hb1, hk1⟩
  case round =>
    obtain ⟨k, y, hk, rfl, HY, hwr, hbr, hkr⟩ := hrel
    clear hw1 hb1 hk1
    by_cases hlt : k < n
    · obtain ⟨cb, coff, rfl, hcbl, hcell⟩ := hr (by omega)
      have hbz := h0.trans hbr
      obtain ⟨x0, x1, x2, x3, x4, x5⟩ := (hcell k hlt).1.keep fun i => hbz.cell (p := ⟨cb, i, none⟩) hcbl
      have hin := (hcell k hlt).2
      have hs := flE_succ arg k
      have hle := flE_le arg (k := k + 1) (n := n) hlt
      rw [hs, List.length_append] at hle
      have HK : Hid (y ++ encE (treeE (arg k)) = xs ++ (enc (n : Int) ++ flE arg (k + 1))) := by show _ = _; rw [hs, HY.out]; simp only [List.append_assoc]
      have hyl : y.length ≤ xs.length + ((enc (n : Int)).length + (flE arg k).length) := by rw [HY.out]; simp only [List.length_append]; omega
      clear hs hcell
      have hBr : w0.heap.size ≤ wr.heap.size := hwr.2.1
      have hbz2 : Below w0.heap.size w0 (wr.alloc (.cells #[.int .i64 (arg k).op, .int .i64 (arg k).col, .int .i64 (arg k).v.kind, .int .i64 (arg k).v.num, .string ⟨(arg k).v.text.toArray⟩, .slice (arg k).A (arg k).n (arg k).cap] 67)) := hbz.alloc hBr _
      have hP := hput k hlt (wr.alloc (.cells #[.int .i64 (arg k).op, .int .i64 (arg k).col, .int .i64 (arg k).v.kind, .int .i64 (arg k).v.num, .string ⟨(arg k).v.text.toArray⟩, .slice (arg k).A (arg k).n (arg k).cap] 67)) y (hwr.alloc _) hbz2 (by omega)
      unfold Ex.val at hP
      clear hin
      go_wp2_with fail
      refine hP.mono ?_
      rintro e w3 ⟨rfl, hw3, hb3, hk3⟩
      have hb4 := hbr.trans (((Below.refl w0.heap.size wr).alloc hBr _).trans hb3)
      have hk4 := hkr.trans hk3.alloc_l
      clear hP
      go_wp2_with fail
      exact ⟨⟨k + 1, _, by omega, by go_num, HK, hw3, hb4, hk4⟩, by simp [intOf]; omega⟩
    · obtain rfl : n = k := by omega
      go_wp2_with fail
      go_end0
      exact ⟨rfl, by rw [HY.out] at hwr; exact hwr, hbr, hkr⟩

set_option maxRecDepth 100000 in
set_option maxHeartbeats 1600000 in
theorem putE_any (B b : Nat) (w0 : World) (hB : B = w0.heap.size) (e : Ex) : InE w0 e → PutsE B b w0 e := by
  induction e with
  | nil => intro h; exact h.elim
  | mk op col v A n cap arg ih =>
    intro hin w xs h h0 hl
    rw [InE] at hin
    obtain ⟨i1, i2, hv, hn, harg⟩ := hin
    have hE : encE (treeE (.mk op col v A n cap arg)) = (enc op ++ enc col) ++ (bytesV v ++ (enc (n : Int) ++ flE arg n)) := by rw [encE_tree]; unfold flE; simp only [List.append_assoc]
    have hput : ∀ j, j < n → PutsE B b w0 (arg j) := fun j hj => by
      obtain ⟨_, _, _, _, hc⟩ := harg (by omega)
      exact ih j (hc j hj).2
    have hrow : RowE w0 A n arg := harg
    rw [hE] at hl ⊢
    clear hE ih harg
    simp only [List.length_append] at hl
    obtain ⟨vk, vn, vt⟩ := v
    simp only [Ex.val, Ex.op, Ex.col, Ex.v, Ex.A, Ex.n, Ex.cap]
    have aV := At.fresh w 67 #[.int .i64 op, .int .i64 col, .int .i64 vk, .int .i64 vn, .string ⟨vt.toArray⟩, .slice A n cap]
    have hw := h.alloc (.cells #[.int .i64 op, .int .i64 col, .int .i64 vk, .int .i64 vn, .string ⟨vt.toArray⟩, .slice A n cap] 67)
    have hb0 : Below B w (w.alloc (.cells #[.int .i64 op, .int .i64 col, .int .i64 vk, .int .i64 vn, .string ⟨vt.toArray⟩, .slice A n cap] 67)) := (Below.refl _ _).alloc h.2.1 _
    have hC := putI2 B b _ xs op col hw i1 i2 (by omega)
    simp only [World.size_alloc] at hC
    have hwl := h.lt
    have HV := Lib.hid hv
    clear hv i1 i2
    go_enter Tryz.func84, Tryz.ntmps84
    go_wp2_with fail
    refine hC.mono ?_
    rintro e w1 ⟨rfl, hw1, hb1, hk1⟩
    have aV1 := hk1 _ _ _ aV (by decide) (by omega)
    obtain ⟨c0, c1, c2, c3, c4, c5⟩ := aV1.six
    have hC2 := putV_any B b _ _ ⟨vk, vn, vt⟩ hw1 HV.out (by simp only [List.length_append]; omega)
    unfold Vl.val at hC2
    go_wp2_with fail
    refine hC2.mono ?_
    rintro e w2 ⟨rfl, hw2, hb2, hk2⟩
    have aV2 := hk2 _ _ _ aV1 (by decide) (by omega)
    clear c0 c1 c2 c3 c4 c5
    obtain ⟨c0, c1, c2, c3, c4, c5⟩ := aV2.six
    have hC3 := putLE_any B b w0 _ _ A n cap arg hw2 hB (h0.trans (hb0.trans (hb1.trans hb2))) hrow hn hput (by simp only [List.length_append]; omega)
    go_wp2_with fail
    refine hC3.mono ?_
    rintro e w3 ⟨rfl, hw3, hb3, hk3⟩
    go_wp2_with fail
    go_end0
    refine ⟨rfl, ?_, hb0.trans (hb1.trans (hb2.trans hb3)), (Kps.trans hk1 (Kps.trans hk2 hk3)).alloc_l⟩
    simp only [List.append_assoc] at hw3 ⊢
    exact hw3

set_option maxRecDepth 100000 in
set_option maxHeartbeats 1600000 in
theorem putT_any (B b : Nat) (w0 : World) (hB : B = w0.heap.size) (t : Tb) (hin : InT w0 t) (w : World) (xs : List UInt8) (h : Wr B b w xs) (h0 : Below B w0 w) (hl : xs.length + (encT (treeT t)).length ≤ 90000000) :
    Calls Tryz.prog 48 #[.pointer (some ⟨b, 0, none⟩), t.val] w fun en w2 => Put B b w (xs ++ encT (treeT t)) en w2 := by
  obtain ⟨nm, ow, cA, cn, ccap, cols, eA, en, ecap, chk⟩ := t
  obtain ⟨iow, -, hcm, hem, hC, hE⟩ := hin
  simp only at iow hcm hem hC hE
  have hput : ∀ j, j < en → PutsE B b w0 (chk j) := fun j hj => by
    obtain ⟨_, _, _, _, hc⟩ := hE (by omega)
    exact putE_any B b w0 hB (chk j) (hc j hj).2
  have hTi : encT (treeT ⟨nm, ow, cA, cn, ccap, cols, eA, en, ecap, chk⟩) = encS nm ++ (enc ow ++ ((enc (cn : Int) ++ flC cols cn) ++ (enc (en : Int) ++ flE chk en))) := by
    rw [encT_is nm ow cA cn ccap cols eA en ecap chk hC.1]; simp only [List.append_assoc]
  rw [hTi] at hl ⊢
  clear hTi
  simp only [List.length_append] at hl
  simp only [Tb.val]
  have aV := At.fresh w 32 #[.string ⟨nm.toArray⟩, .int .i64 ow, .slice cA cn ccap, .slice eA en ecap]
  have hw := h.alloc (.cells #[.string ⟨nm.toArray⟩, .int .i64 ow, .slice cA cn ccap, .slice eA en ecap] 32)
  have hb0 : Below B w (w.alloc (.cells #[.string ⟨nm.toArray⟩, .int .i64 ow, .slice cA cn ccap, .slice eA en ecap] 32)) := (Below.refl _ _).alloc h.2.1 _
  have hC1 := putS1 B b _ xs nm hw (by omega)
  simp only [World.size_alloc] at hC1
  have hwl := h.lt
  go_enter Tryz.func48, Tryz.ntmps48
  go_wp2_with fail
  refine hC1.mono ?_
  rintro e w1 ⟨rfl, hw1, hb1, hk1⟩
  have aV1 := hk1 _ _ _ aV (by decide) (by omega)
  obtain ⟨c0, c1, c2, c3, -⟩ := aV1.four
  have hC2 := putI1 B b _ _ ow hw1 iow (by simp only [List.length_append]; omega)
  go_wp2_with fail
  refine hC2.mono ?_
  rintro e w2 ⟨rfl, hw2, hb2, hk2⟩
  have aV2 := hk2 _ _ _ aV1 (by decide) (by omega)
  clear c0 c1 c2 c3
  obtain ⟨c0, c1, c2, c3, -⟩ := aV2.four
  have hb02 := hb0.trans (hb1.trans hb2)
  have hC3 := putLC_any B b w0 _ _ cA cn ccap cols hw2 hB (h0.trans hb02) hC hcm (by simp only [List.length_append]; omega)
  go_wp2_with fail
  refine hC3.mono ?_
  rintro e w3 ⟨rfl, hw3, hb3, hk3⟩
  have aV3 := hk3 _ _ _ aV2 (by decide) (by omega)
  clear c0 c1 c2 c3
  obtain ⟨c0, c1, c2, c3, -⟩ := aV3.four
  have hb03 := hb02.trans hb3
  have hC4 := putLE_any B b w0 _ _ eA en ecap chk hw3 hB (h0.trans hb03) hE hem hput (by simp only [List.length_append]; omega)
  go_wp2_with fail
  refine hC4.mono ?_
  rintro e w4 ⟨rfl, hw4, hb4, hk4⟩
  go_wp2_with fail
  go_end0
  refine ⟨rfl, ?_, hb03.trans hb4, (Kps.trans hk1 (Kps.trans hk2 (Kps.trans hk3 hk4))).alloc_l⟩
  simp only [List.append_assoc] at hw4 ⊢
  exact hw4

set_option maxRecDepth 100000 in
set_option maxHeartbeats 1600000 in
theorem putLT_any (B b : Nat) (w0 w : World) (xs : List UInt8) (A : Option Addr) (n cap : Nat) (arg : Nat → Tb) (h : Wr B b w xs) (hB : B = w0.heap.size) (h0 : Below B w0 w) (hr : RowT w0 A n arg) (hn : n ≤ maxLen) (hl : xs.length + ((enc (n : Int)).length + (flT arg n).length) ≤ 90000000) :
    Calls Tryz.prog 47 #[.pointer (some ⟨b, 0, none⟩), .slice A n cap, .func (.func 48) #[] #[]] w fun e w' => Put B b w (xs ++ (enc (n : Int) ++ flT arg n)) e w' := by
  subst hB
  unfold maxLen at hn
  have hI : I64 (n : Int) := by unfold I64; omega
  have hC := putI1 w0.heap.size b w xs (n : Int) h hI (by omega)
  have hBw := h.2.1
  clear hI
  go_enter Tryz.func47, Tryz.ntmps47
  go_wp2_with fail
  refine hC.mono ?_
  rintro e w1 ⟨rfl, hw1, hb1, hk1⟩
  clear hC h
  go_wp2_with fail
  go_loopw [15] (fun i wr => ∃ (k : Nat) (y : List UInt8), k ≤ n ∧ i = .int .i64 k ∧ Hid (y = xs ++ (enc (n : Int) ++ flT arg k)) ∧ Wr w0.heap.size b wr y ∧ Below w0.heap.size w wr ∧ Kps b w wr) (fun i _ => n - (intOf i).toNat)
  case atStart => exact ⟨0, xs ++ enc (n : Int), by omega, rfl, show _ = _ by simp [flT], hw1, hb1, hk1⟩
  case round =>
    obtain ⟨k, y, hk, rfl, HY, hwr, hbr, hkr⟩ := hrel
    clear hw1 hb1 hk1
    by_cases hlt : k < n
    · obtain ⟨cb, coff, rfl, hcbl, hcell⟩ := hr (by omega)
      have hbz := h0.trans hbr
      obtain ⟨x0, x1, x2, x3⟩ := (hcell k hlt).1.keep fun i => hbz.cell (p := ⟨cb, i, none⟩) hcbl
      have hin := (hcell k hlt).2
      have hs := flT_succ arg k
      have hle := flT_le arg (k := k + 1) (n := n) hlt
      rw [hs, List.length_append] at hle
      have HK : Hid (y ++ encT (treeT (arg k)) = xs ++ (enc (n : Int) ++ flT arg (k + 1))) := by show _ = _; rw [hs, HY.out]; simp only [List.append_assoc]
      have hyl : y.length ≤ xs.length + ((enc (n : Int)).length + (flT arg k).length) := by rw [HY.out]; simp only [List.length_append]; omega
      clear hs hcell
      have hBr : w0.heap.size ≤ wr.heap.size := hwr.2.1
      have hbz2 : Below w0.heap.size w0 (wr.alloc (.cells #[.string ⟨(arg k).name.toArray⟩, .int .i64 (arg k).owner, .slice (arg k).cA (arg k).cn (arg k).ccap, .slice (arg k).eA (arg k).en (arg k).ecap] 32)) := hbz.alloc hBr _
      have hP := putT_any w0.heap.size b w0 rfl (arg k) hin (wr.alloc (.cells #[.string ⟨(arg k).name.toArray⟩, .int .i64 (arg k).owner, .slice (arg k).cA (arg k).cn (arg k).ccap, .slice (arg k).eA (arg k).en (arg k).ecap] 32)) y (hwr.alloc _) hbz2 (by omega)
      unfold Tb.val at hP
      clear hin
      go_wp2_with fail
      refine hP.mono ?_
      rintro e w3 ⟨rfl, hw3, hb3, hk3⟩
      have hb4 := hbr.trans (((Below.refl w0.heap.size wr).alloc hBr _).trans hb3)
      have hk4 := hkr.trans hk3.alloc_l
      clear hP
      go_wp2_with fail
      exact ⟨⟨k + 1, _, by omega, by go_num, HK, hw3, hb4, hk4⟩, by simp [intOf]; omega⟩
    · obtain rfl : n = k := by omega
      go_wp2_with fail
      go_end0
      exact ⟨rfl, by rw [HY.out] at hwr; exact hwr, hbr, hkr⟩
end Go.Proofs.YtnhalfdddcjicaaGreat

namespace Go.Proofs.YtnhalfdddcjicaaGreat
open Go.RowKit

set_option maxRecDepth 100000 in
set_option maxHeartbeats 1600000 in
theorem sbytes_any (s : Sc) (w : World) (hs : InS w s) (hl : (encSd (treeS s)).length ≤ 80000000) :
    Calls Tryz.prog 24 #[s.val] w fun e w' => e = .returned (.string ⟨(encSd (treeS s)).toArray⟩) ∧ Below w.heap.size w w' := by
  obtain ⟨ver, tA, tn, tcap, tab, gA, gn, gcap, gs⟩ := s
  obtain ⟨i1, htm, hgm, hT, hG⟩ := hs
  simp only at i1 htm hgm hT hG
  have hE : encSd (treeS ⟨ver, tA, tn, tcap, tab, gA, gn, gcap, gs⟩) = enc ver ++ ((enc (tn : Int) ++ flT tab tn) ++ (enc (gn : Int) ++ flG gs gn)) := by
    rw [encSd_is ver tA tn tcap tab gA gn gcap gs hG.1]; simp only [List.append_assoc]
  rw [hE] at hl ⊢
  simp only [List.length_append] at hl
  have HE := Lib.hid hE
  clear hE
  simp only [Sc.val]
  obtain ⟨W, hW⟩ : ∃ W, (w.alloc (.cells #[.int .i64 ver, .slice tA tn tcap, .slice gA gn gcap] 25)).alloc (.cells #[.slice none 0 0] 82) = W := ⟨_, rfl⟩
  have b3 : Below w.heap.size w W := by
    rw [← hW]
    have b0 := below_box w (.cells #[.int .i64 ver, .slice tA tn tcap, .slice gA gn gcap] 25)
    exact b0.alloc b0.size _
  have aS : At W w.heap.size 25 #[.int .i64 ver, .slice tA tn tcap, .slice gA gn gcap] := by
    rw [← hW]; exact (At.fresh _ _ _).alloc _
  have aW : At W (w.heap.size + 1) 82 #[.slice none 0 0] := by
    rw [← hW]
    have := At.fresh (w.alloc (.cells #[.int .i64 ver, .slice tA tn tcap, .slice gA gn gcap] 25)) 82 #[.slice none 0 0]
    simp only [World.size_alloc] at this
    exact this
  have hwr : Wr w.heap.size (w.heap.size + 1) W [] := ⟨by omega, b3.size, _, aW, Owns.nil _ _ _⟩
  have hsz : W.heap.size = w.heap.size + 1 + 1 := by rw [← hW]; simp
  have hWc := Lib.hid hW
  clear hW
  have hC1 := putI1 w.heap.size (w.heap.size + 1) W [] ver hwr i1 (by simp)
  go_enter Tryz.func24, Tryz.ntmps24
  rw [hsz, List.nil_append] at hC1
  clear hsz
  go_wp2_with fail
  rw [hWc.out]
  clear hWc
  refine hC1.mono ?_
  rintro e w1 ⟨rfl, hw1, hb1, hk1⟩
  have aS1 := hk1 _ _ _ aS (by decide) (by omega)
  obtain ⟨c0, c1, c2⟩ := aS1.tri1
  have hC2 := putLT_any w.heap.size (w.heap.size + 1) w w1 _ tA tn tcap tab hw1 rfl (b3.trans hb1) hT htm (by omega)
  clear hC1
  go_wp2_with fail
  refine hC2.mono ?_
  rintro e w2 ⟨rfl, hw2, hb2, hk2⟩
  have aS2 := hk2 _ _ _ aS1 (by decide) (by omega)
  clear c0 c1 c2 hC2
  obtain ⟨c0, c1, c2⟩ := aS2.tri1
  have hC3 := putLG_any w.heap.size (w.heap.size + 1) w w2 _ gA gn gcap gs hw2 rfl (b3.trans (hb1.trans hb2)) hG hgm (by simp only [List.length_append]; omega)
  go_wp2_with fail
  refine hC3.mono ?_
  rintro e w3 ⟨rfl, hw3, hb3, hk3⟩
  clear c0 c1 c2 hC3
  have hbb := b3.trans (hb1.trans (hb2.trans hb3))
  simp only [List.append_assoc] at hw3
  obtain ⟨-, -, v, hat, how⟩ := hw3
  go_wp2_with fail
  refine (wbytes_any _ _ v _ _ hat how).mono ?_
  rintro e w4 ⟨rfl, rfl⟩
  go_wp2_with fail
  go_ret
  refine ⟨ret_s ?_, hbb⟩
  simp only [List.append_assoc]
end Go.Proofs.YtnhalfdddcjicaaGreat

namespace Go.Proofs.YtnhalfdddcjicaaGreat
open Go.RowKit

section
variable {w w' : World} {p B : Nat} {ver : Int} {A : Option Addr} {c : Nat} {L : List Tb} {A' : Option Addr} {c' : Nat} {gs : List Gr}
/-- Whatever is written below it. -/
theorem OutS.low (h : OutS w p B ver A c L A' c' gs) (hs : w.heap.size ≤ w'.heap.size) (hk : ∀ b, B ≤ b → b < w.heap.size → w'.heap[b]? = w.heap[b]?) : OutS w' p B ver A c L A' c' gs :=
  ⟨h.at_.keep (hk p h.hp h.lt), h.hp, h.ver, h.tl, h.gl, own_move h.own hk (Nat.le_refl _), fun x hx => (h.keep x hx).keep hs (fun b hb hl => hk b hb.1 hl) (fun _ hb _ => hb), own_move h.gown hk (Nat.le_refl _), h.gok⟩
theorem OutS.vers (h : OutS w p B ver A c L A' c' gs) {v : Int} (hv : I64 v) : OutS (w.setCell ⟨p, 0, none⟩ (.int .i64 v)) p B v A c L A' c' gs := by
  have hs9 : (w.setCell ⟨p, 0, none⟩ (.int .i64 v)).heap.size = w.heap.size := by simp [World.setCell]
  have hset : ∀ b, b ≠ p → (w.setCell ⟨p, 0, none⟩ (.int .i64 v)).heap[b]? = w.heap[b]? := fun b hb => Below.heap_setCell _ _ _ _ hb
  refine ⟨h.at_.put 0 (.int .i64 v), h.hp, hv, h.tl, h.gl, ?_, fun x hx => ?_, ?_, h.gok⟩
  · exact own_block_keep h.own fun b hb => hset b (fun e => block_ne h.own h.at_ (by decide) (by rw [hb, e]))
  · exact (h.keep x hx).keep (by omega) (fun b hb hl => hset b hb.2.2) (fun b hb _ => hb)
  · exact own_block_keep h.gown fun b hb => hset b (fun e => block_ne h.gown h.at_ (by decide) (by rw [hb, e]))
/-- The copy, stored. -/
theorem OutS.start {s : Sc} {B : Nat} {tv : Value} {L : List Tb} {gv : Value} (hO : OwnT w B tv L) (hG : w.ownsRow B 50 3 gv s.grants.length (s.grants.flatMap Gr.cs)) (hB : B ≤ w.heap.size) (hv : I64 s.ver) (hl : L.length ≤ 2000000) (hgl : s.grants.length ≤ 2000000) (hok : ∀ g ∈ s.grants, g.Ok) :
    ∃ A c A' c', tv = .slice A L.length c ∧ gv = .slice A' s.grants.length c' ∧ OutS (w.alloc (.cells #[.int .i64 s.ver, .slice A L.length c, .slice A' s.grants.length c'] 25)) w.heap.size B s.ver A c L A' c' s.grants := by
  obtain ⟨A, c, rfl, -⟩ := own_cells Tb.cs default (fun _ => rfl) L hO.1 rfl
  obtain ⟨A', c', rfl, -⟩ := own_cells Gr.cs default (fun _ => rfl) s.grants hG rfl
  have hb := below_box w (.cells #[.int .i64 s.ver, .slice A L.length c, .slice A' s.grants.length c'] 25)
  exact ⟨A, c, A', c', rfl, rfl, At.fresh _ _ _, hB, hv, hl, hgl, own_below hO.1 hb, fun x hx => (hO.2 x hx).keep hb.size (fun b _ hlt => hb.block b hlt) (fun b hb' hlt => ⟨hb'.1, hb'.2, by omega⟩), own_below hG hb, hok⟩
end
theorem sim_tabs {L : List Tb} {tab : Nat → Tb} {n : Nat} (h : SimL L tab n) : L.map treeT = (List.range n).map fun j => treeT (tab j) := by
  obtain ⟨hl, hs⟩ := h
  apply List.ext_getElem
  · simp [hl]
  · intro i h1 h2
    simp at h1 h2 ⊢
    have := tree_simT (hs i h2)
    rw [List.getD_eq_getElem?_getD, List.getElem?_eq_getElem h1] at this
    exact this
theorem sim_wt {L : List Tb} {tab : Nat → Tb} {n : Nat} (h : SimL L tab n) : wtL L = sumN n fun j => wtT (tab j) := by
  obtain ⟨hl, hs⟩ := h
  unfold wtL
  rw [← sum_range wtT L, hl]
  exact sumN_congr fun i hi => wt_simT (hs i hi)

theorem ErrD.like {a b : Sc} (h : (treeS a).tabs = (treeS b).tabs) {role : Int} {x : List UInt8} {e : Int} (he : ErrD a role x e) : ErrD b role x e := by
  unfold ErrD at he ⊢
  rw [← refers_like h]
  rcases he with ⟨h1, h2⟩ | ⟨h1, h2⟩
  · exact .inl ⟨h1.like h, h2⟩
  · exact .inr ⟨h1.like h, h2⟩
/-- What change leaves, in the words of trees. -/
theorem change_tree {w' wc : World} {p B : Nat} {s : Sc} {A : Option Addr} {c : Nat} {L : List Tb} {A' : Option Addr} {c' : Nat} {role : Int} {st : St} {e : Ending} (hr : 0 ≤ role ∧ role ≤ 7) (hk : isD st.kind = true) {ws : World} (hs : InS ws s) (hc : InS wc (outSc s.ver A c L A' c' s.grants)) (hL : SimL L s.tab s.tn)
    (h : ChR p B s.ver A c L A' c' s.grants role st e w') :
    (∃ er, e = .returned (.int .i64 er) ∧ er ≠ 0 ∧ (SortedG s.grants → ∀ X, AppT s role st er X)) ∨
    (∃ A2 c2 L2 A3 c3 gs2, e = .returned (.int .i64 0) ∧ OutS w' p B s.ver A2 c2 L2 A3 c3 gs2 ∧ wtL L2 + wtGs gs2 ≤ wtL L + wtGs s.grants + wtT st.def_ + wtG st.gr ∧ (SortedG s.grants → AppT s role st 0 ⟨vnext s.ver, L2.map treeT, gs2⟩)) := by
  have hT : (treeS (outSc s.ver A c L A' c' s.grants)).tabs = (treeS s).tabs := by rw [tree_out]; exact sim_tabs hL
  have hgr : (outSc s.ver A c L A' c' s.grants).grants = s.grants := rfl
  have hLT : L.map treeT = (treeS s).tabs := sim_tabs hL
  rcases h with ⟨k, h⟩ | ⟨k, h⟩ | ⟨k, h⟩ | ⟨k6, k7, k8, h⟩
  · rcases h with ⟨er, h1, h2, h3⟩ | ⟨A2, c2, x, h1, h2, h3, h4⟩
    · exact .inl ⟨er, h1, h2, fun sg X => .inr ⟨hr, .inr (.inl ⟨k, (h3 sg).like hc hs hT hgr, fun h => absurd h h2⟩)⟩⟩
    · refine .inr ⟨A2, c2, L ++ [x], A', c', s.grants, h1, h4, ?_, fun sg => .inr ⟨hr, .inr (.inl ⟨k, (h2 sg).like hc hs hT hgr, fun _ => ?_⟩)⟩⟩
      · have hx : wtT x = wtT st.def_ := by rw [wt_simT h3]; rfl
        unfold wtL
        rw [List.map_append, List.sum_append]
        simp only [List.map_cons, List.map_nil, List.sum_cons, List.sum_nil, hx]
        omega
      · rw [List.map_append, hLT]
        simp only [List.map_cons, List.map_nil]
        rw [tree_simT h3]
  · rcases h with ⟨er, h1, h2, h3⟩ | ⟨A2, c2, A3, c3, j, h1, h2, h3, h4⟩
    · exact .inl ⟨er, h1, h2, fun _ X => .inr ⟨hr, .inr (.inr (.inl ⟨k, h3.like hT, fun h => absurd h h2⟩))⟩⟩
    · refine .inr ⟨A2, c2, L.eraseIdx j, A3, c3, woG st.table s.grants, h1, h4, ?_, fun _ => .inr ⟨hr, .inr (.inr (.inl ⟨k, h2.like hT, fun _ => ⟨j, by rw [← tabAt_like hT]; exact h3, ?_⟩⟩))⟩⟩
      · have := wt_erase L j
        have := wt_wo st.table s.grants
        omega
      · rw [← hLT, List.eraseIdx_eq_take_drop_succ, List.eraseIdx_eq_take_drop_succ, List.map_append, List.map_take, List.map_drop]
  · rcases h with ⟨er, h1, h2, h3⟩ | ⟨er, gs', h1, h2, h3, h4⟩ | ⟨A3, c3, gs', h1, h2, h3, h4⟩
    · exact .inl ⟨er, h1, h2, fun _ X => .inr ⟨hr, .inr (.inr (.inr ⟨true, k, .inl ⟨h2, h3.like hT⟩⟩))⟩⟩
    · exact .inl ⟨er, h1, h2, fun _ X => .inr ⟨hr, .inr (.inr (.inr ⟨true, k, .inr ⟨h3.like hT, gs', h4, fun h => absurd h h2⟩⟩))⟩⟩
    · refine .inr ⟨A, c, L, A3, c3, gs', h1, h4, ?_, fun _ => .inr ⟨hr, .inr (.inr (.inr ⟨true, k, .inr ⟨h2.like hT, gs', h3, fun _ => by rw [hLT]⟩⟩))⟩⟩
      have := wt_give h3
      omega
  · have k9 : KindG false st.kind := by
      have h9 : st.kind = 9 := by
        unfold isD at hk
        rw [Bool.and_eq_true, decide_eq_true_eq, decide_eq_true_eq] at hk
        omega
      exact h9
    rcases h with ⟨er, h1, h2, h3⟩ | ⟨er, gs', h1, h2, h3, h4⟩ | ⟨A3, c3, gs', h1, h2, h3, h4⟩
    · exact .inl ⟨er, h1, h2, fun _ X => .inr ⟨hr, .inr (.inr (.inr ⟨false, k9, .inl ⟨h2, h3.like hT⟩⟩))⟩⟩
    · exact .inl ⟨er, h1, h2, fun _ X => .inr ⟨hr, .inr (.inr (.inr ⟨false, k9, .inr ⟨h3.like hT, gs', h4, fun h => absurd h h2⟩⟩))⟩⟩
    · refine .inr ⟨A, c, L, A3, c3, gs', h1, h4, ?_, fun _ => .inr ⟨hr, .inr (.inr (.inr ⟨false, k9, .inr ⟨h2.like hT, gs', h3, fun _ => by rw [hLT]⟩⟩))⟩⟩
      have := wt_give h3
      omega

def ApE (s : Sc) (role : Int) (st : St) (e : Ending) (w' : World) : Prop := ∃ o er, e = .returned (.tuple #[o.val, .int .i64 er]) ∧ InS w' o ∧ (SortedG s.grants → AppF s role st er o)
theorem i64_next (v : Int) : I64 (vnext v) := i64_of_wf (wf_wrap .i64 _)

theorem wpList_load_st {ops : Array Oper} {rest : List Oper} {op : Oper} {a : Act} {w : World} {Q : Exit → Act → World → Prop} (hgd : op.guard = none) (x : Operand) (ho : op.op = .load 34 x) (q : Nat) (st : St) (hx : a.eval x = .pointer (some ⟨q, 0, none⟩)) (h : At w q 34 st.cells)
    (hQ : wpList Tryz.prog ops Q rest (a.put op.dst (.agg st.cells)) w) : wpList Tryz.prog ops Q (op :: rest) a w :=
  wpList_load_mid hgd 34 x ho q 0 hx st.cells.toList _ (fun j v hv => by rw [Nat.zero_add, At.cell h]; simpa using hv) Tryz.underlying34 rfl (by kernel_rfl) (by simpa using hQ)

/-- .. with room for what the rows hold. -/
def ApC (s : Sc) (role : Int) (st : St) (e : Ending) (w' : World) : Prop := ∃ o er, e = .returned (.tuple #[o.val, .int .i64 er]) ∧ InS w' o ∧ (o.tn ≤ o.tcap ∧ o.gn ≤ o.gcap) ∧ (SortedG s.grants → AppF s role st er o)
theorem own_cap {w : World} {base : Nat} {e : TypeId} {k : Nat} {A : Option Addr} {n c m : Nat} {xs : List Value} (h : w.ownsRow base e k (.slice A n c) m xs) : n ≤ c := by
  rcases h.2 with ⟨e1, h0⟩ | ⟨g, cap, cur, e1, _, _, hnc, _⟩
  · injection e1 with _ e2 e3; omega
  · injection e1 with _ e2 e3; omega

set_option maxRecDepth 100000 in
set_option maxHeartbeats 6400000 in
theorem dapplyC_any (s : Sc) (role : Int) (st : St) (w : World) (hs : InS w s) (hst : InSt w st) (hrole : I64 role) (hw : wtS s ≤ 1048576) (hwd : wtT st.def_ ≤ 1048573) (hsum : wtS s + wtT st.def_ + st.table.length ≤ 1900000) (hgn : s.gn ≤ 1000) (htn : s.tn ≤ 1000) :
    Calls Tryz.prog 10 #[s.val, .int .i64 role, st.val] w fun e w' => ApC s role st e w' ∧ Below w.heap.size w w' := by
  have HZ : Hid (∀ er w', (SortedG s.grants → AppF s role st er noS) → ApC s role st (.returned (.tuple #[.agg #[.int .i64 0, .slice none 0 0, .slice none 0 0], .int .i64 er])) w') := by
    show ∀ _, _
    exact fun er w' h => ⟨noS, er, rfl, in_noS w', ⟨Nat.le_refl _, Nat.le_refl _⟩, h⟩
  have HF : Hid (∀ o w', InS w' o → (o.tn ≤ o.tcap ∧ o.gn ≤ o.gcap) → (SortedG s.grants → AppF s role st 0 o) → ApC s role st (.returned (.tuple #[o.val, .int .i64 0])) w') := by
    show ∀ _, _
    exact fun o w' h1 h3 h2 => ⟨o, 0, rfl, h1, h3, h2⟩
  have b1 := below_box w (.cells #[.int .i64 s.ver, .slice s.tA s.tn s.tcap, .slice s.gA s.gn s.gcap] 25)
  have aS := At.fresh w 25 #[.int .i64 s.ver, .slice s.tA s.tn s.tcap, .slice s.gA s.gn s.gcap]
  obtain ⟨W1, hW1⟩ : ∃ W1, w.alloc (.cells #[.int .i64 s.ver, .slice s.tA s.tn s.tcap, .slice s.gA s.gn s.gcap] 25) = W1 := ⟨_, rfl⟩
  rw [hW1] at b1 aS
  have hz1 : W1.heap.size = w.heap.size + 1 := by rw [← hW1]; simp
  have b2 := below_box W1 (.cells st.cells 34)
  have aT := At.fresh W1 34 st.cells
  obtain ⟨W2, hW2⟩ : ∃ W2, W1.alloc (.cells st.cells 34) = W2 := ⟨_, rfl⟩
  rw [hW2] at b2 aT
  have hz2 : W2.heap.size = w.heap.size + 1 + 1 := by rw [← hW2]; simp [hz1]
  have b3 := below_box W2 (.cells #[.int .i64 0, .slice none 0 0, .slice none 0 0] 25)
  have aR := At.fresh W2 25 #[.int .i64 0, .slice none 0 0, .slice none 0 0]
  obtain ⟨W3, hW3⟩ : ∃ W3, W2.alloc (.cells #[.int .i64 0, .slice none 0 0, .slice none 0 0] 25) = W3 := ⟨_, rfl⟩
  rw [hW3] at b3 aR
  have hz3 : W3.heap.size = w.heap.size + 3 := by rw [← hW3]; simp [hz2]
  have aS3 := (aS.below b2 aS.lt).below b3 (aS.below b2 aS.lt).lt
  have aT3 := aT.below b3 aT.lt
  have hb3 := below_in (below_in b1 b2) b3
  rw [hz1] at aT3
  rw [hz2] at aR
  have hWc := Lib.hid (show ((w.alloc (.cells #[.int .i64 s.ver, .slice s.tA s.tn s.tcap, .slice s.gA s.gn s.gcap] 25)).alloc (.cells st.cells 34)).alloc (.cells #[.int .i64 0, .slice none 0 0, .slice none 0 0] 25) = W3 by rw [hW1, hW2, hW3])
  clear hW1 hW2 hW3 aS aT b1 b2 b3
  have hIs := fun w1 => dis_any st w1
  have hCp := fun w1 (b : Below w.heap.size w w1) => copyS_any s w1 (hs.below b) hw
  obtain ⟨s0, s1, s2⟩ := aS3.tri0
  obtain ⟨r0, r1, r2⟩ := aR.tri0
  have y0 := aR.unfrozen 0
  have y1 := aR.unfrozen 1
  have y2 := aR.unfrozen 2
  have hfin0 := fun x y z => below_set3 (g := w.heap.size + 1 + 1) hb3 (by omega) x y z
  have hRole := Lib.hid (role_any role)
  have HVAL : Hid (st.val = .agg st.cells) := rfl
  rw [HVAL.out] at hIs
  unfold Sc.val at hCp ⊢
  rw [HVAL.out]
  by_cases hr : 0 ≤ role ∧ role ≤ 7
  · have hRt : ∀ w1, Calls Tryz.prog 21 #[.int .i64 role] w1 fun e w' => e = .returned (.bool true) ∧ w1 = w' := fun w1 => by
      have := hRole.out w1
      rw [decide_eq_true hr] at this
      exact this
    clear hRole
    cases hk : isD st.kind with
    | false =>
      have HX := Lib.hid (fun w' => HZ.out 1 w' (fun _ => ⟨1, ⟨0, [], []⟩, .inr ⟨hr, .inl ⟨hk, rfl⟩⟩, .inl ⟨by decide, rfl, rfl⟩⟩))
      rw [hk] at hIs
      have hIc := hIs W3
      clear HZ HF hCp hr hIs
      go_enter Tryz.func10, Tryz.ntmps10
      go_wp2_with fail
      rw [hWc.out]
      refine (hRt _).mono ?_
      rintro e w1 ⟨rfl, rfl⟩
      go_wp2_with (refine wpList_load_st rfl (.tmp 5) rfl (w.heap.size + 1) st rfl aT3 ?_)
      refine hIc.mono ?_
      rintro e w4 ⟨rfl, b4⟩
      have hb4 := below_in hb3 b4
      have aR4 := aR.below b4 aR.lt
      clear r0 r1 r2 y0 y1 y2 hfin0
      obtain ⟨r0, r1, r2⟩ := aR4.tri0
      have y0 := aR4.unfrozen 0
      have y1 := aR4.unfrozen 1
      have y2 := aR4.unfrozen 2
      have hfin := fun x y z => below_set3 (g := w.heap.size + 1 + 1) hb4 (by omega) x y z
      go_wp2_with fail
      refine bodyPost_ret (v := .tuple #[.agg #[.int .i64 0, .slice none 0 0, .slice none 0 0], .int .i64 1]) (by simp [results, Tryz.results10, go_sem, r0, r1, r2]) rfl ⟨HX.out _, hfin _ _ _⟩
    | true =>
      rw [hk] at hIs
      have hIc := hIs W3
      clear hIs
      go_enter Tryz.func10, Tryz.ntmps10
      go_wp2_with fail
      rw [hWc.out]
      refine (hRt _).mono ?_
      rintro e w1 ⟨rfl, rfl⟩
      go_wp2_with (refine wpList_load_st rfl (.tmp 5) rfl (w.heap.size + 1) st rfl aT3 ?_)
      refine hIc.mono ?_
      rintro e w4 ⟨rfl, b4⟩
      have hb4 := below_in hb3 b4
      have aR4 := aR.below b4 aR.lt
      have aS4 := aS3.below b4 aS3.lt
      have aT4 := aT3.below b4 aT3.lt
      have hCc := hCp _ hb4
      have hz4 := b4.size
      clear r0 r1 r2 y0 y1 y2 hfin0 s0 s1 s2 aR aS3 aT3 hIc hRt hWc hCp b4
      obtain ⟨s0, s1, s2⟩ := aS4.tri0
      go_wp2_with fail
      refine hCc.mono ?_
      rintro e w5 ⟨⟨tv, L, gv, rfl, hOT, hSL, hGO⟩, b5⟩
      have hb5 := below_in hb4 b5
      have aR5 := aR4.below b5 aR4.lt
      have aT5 := aT4.below b5 aT4.lt
      clear s0 s1 s2 hCc aS4 aR4 aT4
      obtain ⟨A, c, A', c', rfl, rfl, hO6⟩ := OutS.start hOT hGO b5.size hs.ver (by rw [hSL.1]; omega) (by rw [hs.grants.1]; omega) hs.grants.2.1
      have hz5 := b5.size
      have hwO : wtS (outSc s.ver A c L A' c' s.grants) = wtS s := by
        rw [wt_out, sim_wt hSL]
        have := sum_range wtG s.grants
        rw [hs.grants.1] at this
        unfold wtS wtGs
        rw [this]
      have hb6 := hb5.alloc hb5.size (.cells #[.int .i64 s.ver, .slice A L.length c, .slice A' s.grants.length c'] 25)
      have aT6 := aT5.alloc (.cells #[.int .i64 s.ver, .slice A L.length c, .slice A' s.grants.length c'] 25)
      have aR6 := aR5.alloc (.cells #[.int .i64 s.ver, .slice A L.length c, .slice A' s.grants.length c'] 25)
      have hCh := change_any w5.heap.size w4.heap.size s.ver A c L A' c' s.grants role st _ hO6 (hst.below hb6) hrole hwd (by rw [hwO]; exact hw) ⟨by rw [hSL.1]; exact htn, by rw [hs.grants.1]; exact hgn⟩
      have hTr := fun e w' h => change_tree (w' := w') (e := e) (p := w5.heap.size) (B := w4.heap.size) hr hk hs hO6.inS hSL h
      rw [show st.val = .agg st.cells from rfl] at hCh
      have hbound := Lib.hid (show wtL L + wtGs s.grants + wtT st.def_ + wtG st.gr ≤ 1900003 by
        have h1 := wt_out s.ver A c L A' c' s.grants
        have h2 : wtG st.gr = 3 + st.table.length := rfl
        omega)
      have hTr2 := Lib.hid hTr
      have hz6 : (w5.alloc (.cells #[.int .i64 s.ver, .slice A L.length c, .slice A' s.grants.length c'] 25)).heap.size = w5.heap.size + 1 := by simp
      have hsv := hs.ver
      clear hTr aT5 aR5 hOT hGO hwO hSL hs hst hw hwd hsum hgn htn hr hk
      go_wp2_with (refine wpList_load_st rfl (.tmp 5) rfl (w.heap.size + 1) st rfl aT6 ?_)
      refine hCh.mono ?_
      rintro e w7 ⟨hR, b7⟩
      have hb7 : Below w.heap.size w w7 := hb6.trans (b7.mono hb4.size)
      have aR7 := aR6.below b7 (by omega)
      clear hCh aT6 aR6 hb6
      obtain ⟨r0, r1, r2⟩ := aR7.tri0
      have y0 := aR7.unfrozen 0
      have y1 := aR7.unfrozen 1
      have y2 := aR7.unfrozen 2
      rcases hTr2.out e w7 hR with ⟨er, rfl, her, hA⟩ | ⟨A2, c2, L2, A3, c3, gs2, rfl, hO7, hwt, hA⟩
      · have HX := Lib.hid (fun w' => HZ.out er w' (fun sg => ⟨er, ⟨0, [], []⟩, hA sg _, .inl ⟨her, rfl, rfl⟩⟩))
        have her2 : (er != 0) = true := by simpa using her
        have hfin := fun x y z => below_set3 (g := w.heap.size + 1 + 1) hb7 (by omega) x y z
        clear HZ HF hTr2 hR hA hO6
        go_wp2_with fail
        exact bodyPost_ret (v := .tuple #[.agg #[.int .i64 0, .slice none 0 0, .slice none 0 0], .int .i64 er]) (by simp [results, Tryz.results10, go_sem, r0, r1, r2]) rfl ⟨HX.out _, hfin _ _ _⟩
      · have hvI := i64_next s.ver
        have hvn : IntKind.i64.wrap (s.ver + 1) = vnext s.ver := rfl
        generalize vnext s.ver = vn at *
        have hO8 := hO7.vers hvI
        have hlen : (encSd ⟨vn, L2.map treeT, gs2⟩).length ≤ 80000000 := by
          have hb := hbound.out
          have := enc_out hvI (fun x hx => (hO7.keep x hx).inT) hO7.gok ⟨hO7.tl, hO7.gl⟩ (fun x hx => by have : wtT x ≤ wtL L2 := mem_wt hx; omega) (fun x hx => by have : wtG x ≤ wtGs gs2 := mem_wt hx; omega)
          omega
        have hBy := sbytes_any (outSc vn A2 c2 L2 A3 c3 gs2) _ hO8.inS (by rw [tree_out]; exact hlen)
        rw [tree_out, outSc_val] at hBy
        have hpB := hO7.hp
        have hb8 : Below w.heap.size w (w7.setCell ⟨w5.heap.size, 0, none⟩ (.int .i64 vn)) := hb7.setCell (p := ⟨w5.heap.size, 0, none⟩) (by show w.heap.size ≤ w5.heap.size; omega) _
        have hpR : w.heap.size + 1 + 1 ≠ w5.heap.size := by omega
        have aR8 := aR7.elsewhere (p := ⟨w5.heap.size, 0, none⟩) hpR (.int .i64 vn)
        obtain ⟨q0, q1, q2⟩ := hO7.at_.tri0
        have z0 := hO7.at_.unfrozen 0
        obtain ⟨v0, v1, v2⟩ := hO8.at_.tri0
        have HA := Lib.hid hA
        have HT := Lib.hid (tree_out (ver := vn) (A := A2) (c := c2) (L := L2) (A' := A3) (c' := c3) (gs := gs2))
        clear hA hTr2 hR hO6 hO7 hwt hbound hvI
        go_wp2_with fail
        generalize w7.setCell ⟨w5.heap.size, 0, none⟩ (.int .i64 vn) = W8 at *
        refine hBy.mono ?_
        rintro e w9 ⟨rfl, b9⟩
        have hb9 := below_in hb8 b9
        have aR9 := aR8.below b9 aR8.lt
        have hO9 := hO8.below b9
        clear r0 r1 r2 y0 y1 y2 q0 q1 q2 z0 v0 v1 v2 hBy aR7 aR8 hb8 hO8
        obtain ⟨r0, r1, r2⟩ := aR9.tri0
        have y0 := aR9.unfrozen 0
        have y1 := aR9.unfrozen 1
        have y2 := aR9.unfrozen 2
        have hfin := fun x y z => below_set3 (g := w.heap.size + 1 + 1) hb9 (by omega) x y z
        by_cases h8 : 8192 < (encSd ⟨vn, L2.map treeT, gs2⟩).length
        · have h8' : decide ((8192 : Int) < (encSd ⟨vn, L2.map treeT, gs2⟩).length) = true := by simp; omega
          have HX := Lib.hid (fun w' => HZ.out 3 w' (fun sg => ⟨0, _, HA.out sg, .inr (.inl ⟨rfl, h8, rfl, rfl⟩)⟩))
          clear HZ HF HA h8 hO9
          generalize encSd ⟨vn, L2.map treeT, gs2⟩ = E at *
          go_wp2_with fail
          exact bodyPost_ret (v := .tuple #[.agg #[.int .i64 0, .slice none 0 0, .slice none 0 0], .int .i64 3]) (by simp [results, Tryz.results10, go_sem, r0, r1, r2]) rfl ⟨HX.out _, hfin _ _ _⟩
        · have h8' : decide ((8192 : Int) < (encSd ⟨vn, L2.map treeT, gs2⟩).length) = false := by simp; omega
          have HX := Lib.hid (fun w' hin => HF.out (outSc vn A2 c2 L2 A3 c3 gs2) w' hin ⟨own_cap hO9.own, own_cap hO9.gown⟩ (fun sg => ⟨0, _, HA.out sg, .inr (.inr ⟨rfl, by omega, rfl, HT.out⟩)⟩))
          have HLOW := Lib.hid (fun w' hs hk => (hO9.low (w' := w') hs hk).inS)
          obtain ⟨v0, v1, v2⟩ := hO9.at_.tri0
          have hpR2 : ∀ b, w4.heap.size ≤ b → b ≠ w.heap.size + 1 + 1 := fun b hb => by omega
          clear HZ HF HA h8 hO9 HT
          generalize encSd ⟨vn, L2.map treeT, gs2⟩ = E at *
          go_wp2_with fail
          refine bodyPost_ret (v := .tuple #[(outSc vn A2 c2 L2 A3 c3 gs2).val, .int .i64 0]) (by simp [results, Tryz.results10, go_sem, r0, r1, r2, outSc_val]) rfl ⟨HX.out _ (HLOW.out _ (by simp [World.setCell]) (fun b hb _ => ?_)), hfin _ _ _⟩
          have hne := hpR2 b hb
          exact (Below.heap_setCell _ _ _ _ hne).trans ((Below.heap_setCell _ _ _ _ hne).trans (Below.heap_setCell _ _ _ _ hne))
  · have hRt : ∀ w1, Calls Tryz.prog 21 #[.int .i64 role] w1 fun e w' => e = .returned (.bool false) ∧ w1 = w' := fun w1 => by
      have := hRole.out w1
      rw [decide_eq_false hr] at this
      exact this
    have HX := Lib.hid (fun w' => HZ.out 14 w' (fun _ => ⟨14, ⟨0, [], []⟩, .inl ⟨hr, rfl⟩, .inl ⟨by decide, rfl, rfl⟩⟩))
    clear HZ HF hCp hr hIs hRole
    go_enter Tryz.func10, Tryz.ntmps10
    go_wp2_with fail
    rw [hWc.out]
    refine (hRt _).mono ?_
    rintro e w1 ⟨rfl, rfl⟩
    go_wp2_with fail
    refine bodyPost_ret (v := .tuple #[.agg #[.int .i64 0, .slice none 0 0, .slice none 0 0], .int .i64 14]) (by simp [results, Tryz.results10, go_sem, r0, r1, r2]) rfl ⟨HX.out _, hfin0 _ _ _⟩
theorem dapply_any (s : Sc) (role : Int) (st : St) (w : World) (hs : InS w s) (hst : InSt w st) (hrole : I64 role) (hw : wtS s ≤ 1048576) (hwd : wtT st.def_ ≤ 1048573) (hsum : wtS s + wtT st.def_ + st.table.length ≤ 1900000) (hgn : s.gn ≤ 1000) (htn : s.tn ≤ 1000) :
    Calls Tryz.prog 10 #[s.val, .int .i64 role, st.val] w fun e w' => ApE s role st e w' ∧ Below w.heap.size w w' :=
  (dapplyC_any s role st w hs hst hrole hw hwd hsum hgn htn).mono fun _ _ ⟨⟨o, er, h1, h2, _, h4⟩, h5⟩ => ⟨⟨o, er, h1, h2, h4⟩, h5⟩
end Go.Proofs.YtnhalfdddcjicaaGreat
