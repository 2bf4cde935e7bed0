/- The walk of Good. -/
import Derived.Test.YtlkeagfmlcbogaaQScI
namespace Go.Proofs.Ytlkeagfmlcbogaa
open Go.RowKit

/-- The first error of n. -/
def firstE (f : Nat → Int) : Nat → Int
  | 0 => 0
  | n + 1 => if firstE f n = 0 then f n else firstE f n
theorem firstE_more {f : Nat → Int} {k : Nat} (h : firstE f k ≠ 0) : ∀ d, firstE f (k + d) = firstE f k
  | 0 => rfl
  | d + 1 => by rw [← Nat.add_assoc, firstE, firstE_more h d, if_neg h]
theorem firstE_hit {f : Nat → Int} {k n : Nat} (h : firstE f k = 0) (hk : k < n) (e : f k ≠ 0) : firstE f n = f k := by
  have h1 : firstE f (k + 1) = f k := by rw [firstE, if_pos h]
  have h2 := firstE_more (f := f) (k := k + 1) (by rw [h1]; exact e) (n - (k + 1))
  rw [show k + 1 + (n - (k + 1)) = n by omega] at h2
  rw [h2, h1]
theorem firstE_next {f : Nat → Int} {k : Nat} (h : firstE f k = 0) (e : f k = 0) : firstE f (k + 1) = 0 := by rw [firstE, if_pos h, e]
def goodE (t : Tb) (s : Sc) : Int :=
  if nameN t.name = false then 4 else if roleB t.owner = false then 4 else if t.cn = 0 then 4
  else if 6 < t.cn then 3 else if 4 < t.en then 3
  else if firstE (colE t s) t.cn = 0 then firstE (fun j => chkE (t.cols.map (·.kind)) (t.chk j)) t.en else firstE (colE t s) t.cn

set_option maxRecDepth 100000 in
set_option maxHeartbeats 6400000 in
theorem tgood_any (t : Tb) (s : Sc) (w : World) (ht : InT w t) (hs : InS w s) :
    Calls Try.prog 12 #[t.val, s.val] w fun e w' => e = .returned (.int .i64 (goodE t s)) ∧ Below w.heap.size w w' := by
  have H : Hid (goodE t s = if nameN t.name = false then 4 else if roleB t.owner = false then 4 else if t.cn = 0 then 4
    else if 6 < t.cn then 3 else if 4 < t.en then 3
    else if firstE (colE t s) t.cn = 0 then firstE (fun j => chkE (t.cols.map (·.kind)) (t.chk j)) t.en else firstE (colE t s) t.cn) := rfl
  have hN := name_any t.name ht.name
  have hO := isRole_any t.owner
  have hcm := ht.cmax
  have hem := ht.emax
  unfold maxLen at hcm hem
  have hCol := fun i hi w1 (b1 : Below w.heap.size w w1) => goodColumn_any t s i w1 (ht.below b1) (hs.below b1) hi
  have hChk := fun x w1 hx (b1 : Below w.heap.size w w1) => goodCheck_any x t.cA t.cn t.ccap t.cols w1 hx (ht.cols.below b1) ht.cmax
  have hrow := ht.chk
  clear ht hs
  have hEH : ∀ k, firstE (colE t s) k = 0 → k < t.cn → colE t s k ≠ 0 → firstE (colE t s) t.cn = colE t s k := fun k h1 h2 h3 => firstE_hit h1 h2 h3
  have hEN : ∀ k, firstE (colE t s) k = 0 → colE t s k = 0 → firstE (colE t s) (k + 1) = 0 := fun k h1 h3 => firstE_next h1 h3
  have hXH : ∀ k, firstE (fun j => chkE (t.cols.map (·.kind)) (t.chk j)) k = 0 → k < t.en → chkE (t.cols.map (·.kind)) (t.chk k) ≠ 0 → firstE (fun j => chkE (t.cols.map (·.kind)) (t.chk j)) t.en = chkE (t.cols.map (·.kind)) (t.chk k) := fun k h1 h2 h3 => firstE_hit h1 h2 h3
  have hXN : ∀ k, firstE (fun j => chkE (t.cols.map (·.kind)) (t.chk j)) k = 0 → chkE (t.cols.map (·.kind)) (t.chk k) = 0 → firstE (fun j => chkE (t.cols.map (·.kind)) (t.chk j)) (k + 1) = 0 := fun k h1 h3 => firstE_next h1 h3
  have hE0 : firstE (colE t s) 0 = 0 := rfl
  have hX0 : firstE (fun j => chkE (t.cols.map (·.kind)) (t.chk j)) 0 = 0 := rfl
  generalize colE t s = fc at *
  obtain ⟨fx, hfx⟩ : ∃ fx, (fun x => chkE (t.cols.map (·.kind)) x) = fx := ⟨_, rfl⟩
  have hfx' : ∀ x, chkE (t.cols.map (·.kind)) x = fx x := fun x => by rw [← hfx]
  simp only [hfx'] at H hChk hXH hXN hX0
  have HEH := Lib.hid hEH
  have HEN := Lib.hid hEN
  have HXH := Lib.hid hXH
  have HXN := Lib.hid hXN
  have HE0 := Lib.hid hE0
  have HX0 := Lib.hid hX0
  clear hfx hfx' hEH hEN hXH hXN hE0 hX0
  obtain ⟨tnm, ow, cA, cn, ccap, cols, eA, en, ecap, chk⟩ := t
  unfold Tb.val Sc.val at *
  simp only at H hN hO hcm hem hCol hChk hrow HEH HEN HXH HXN HX0 ⊢
  obtain ⟨W, hW⟩ : ∃ W, (w.alloc (.cells #[.string ⟨tnm.toArray⟩, .int .i64 ow, .slice cA cn ccap, .slice eA en ecap] 39)).alloc
    (.cells #[.int .i64 s.ver, .slice s.tA s.tn s.tcap, .slice s.gA s.gn s.gcap] 25) = W := ⟨_, rfl⟩
  have b3 : Below w.heap.size w W := by
    rw [← hW]
    have b0 := below_box w (.cells #[.string ⟨tnm.toArray⟩, .int .i64 ow, .slice cA cn ccap, .slice eA en ecap] 39)
    exact b0.alloc b0.size _
  have aT : At W w.heap.size 39 #[.string ⟨tnm.toArray⟩, .int .i64 ow, .slice cA cn ccap, .slice eA en ecap] := by
    rw [← hW]
    exact (At.fresh _ _ _).alloc _
  have aS : At W (w.heap.size + 1) 25 #[.int .i64 s.ver, .slice s.tA s.tn s.tcap, .slice s.gA s.gn s.gcap] := by
    rw [← hW]
    have := At.fresh (w.alloc (.cells #[.string ⟨tnm.toArray⟩, .int .i64 ow, .slice cA cn ccap, .slice eA en ecap] 39)) 25 #[.int .i64 s.ver, .slice s.tA s.tn s.tcap, .slice s.gA s.gn s.gcap]
    simp only [World.size_alloc] at this
    exact this
  have hWc := Lib.hid hW
  clear hW
  go_enter Try.func12, Try.ntmps12
  go_wp2_with fail
  rw [hWc.out]
  clear hWc
  refine (hN _).mono ?_
  rintro e w1 ⟨rfl, rfl⟩
  obtain ⟨t0, t1, t2, t3, -⟩ := aT.four
  cases hnm : nameN tnm with
  | false =>
    have HE := Lib.hid (H.out.trans (if_pos hnm))
    clear H hCol hChk
    go_wp2_with fail
    go_ret
    exact ⟨ret_int HE.out.symm, b3⟩
  | true =>
  have H := Lib.hid (H.out.trans (if_neg (by rw [hnm]; simp)))
  clear hnm hN
  go_wp2_with fail
  refine (hO _).mono ?_
  rintro e w1 ⟨rfl, rfl⟩
  cases hro : roleB ow with
  | false =>
    have HE := Lib.hid (H.out.trans (if_pos hro))
    clear H hCol hChk
    go_wp2_with fail
    go_ret
    exact ⟨ret_int HE.out.symm, b3⟩
  | true =>
  have H := Lib.hid (H.out.trans (if_neg (by rw [hro]; simp)))
  clear hro hO
  by_cases h0 : cn = 0
  · have HE := Lib.hid (H.out.trans (if_pos h0))
    have g0 : ((cn : Int) == 0) = true := by simp; omega
    clear H hCol hChk h0
    go_wp2_with fail
    go_ret
    exact ⟨ret_int HE.out.symm, b3⟩
  have H := Lib.hid (H.out.trans (if_neg h0))
  have g0 : ((cn : Int) == 0) = false := by simp; omega
  clear h0
  by_cases h6 : 6 < cn
  · have HE := Lib.hid (H.out.trans (if_pos h6))
    have g6 : decide ((6 : Int) < cn) = true := by simp; omega
    clear H hCol hChk h6
    go_wp2_with fail
    go_ret
    exact ⟨ret_int HE.out.symm, b3⟩
  have H := Lib.hid (H.out.trans (if_neg h6))
  have g6 : decide ((6 : Int) < cn) = false := by simp; omega
  clear h6
  by_cases h4 : 4 < en
  · have HE := Lib.hid (H.out.trans (if_pos h4))
    have g4 : decide ((4 : Int) < en) = true := by simp; omega
    clear H hCol hChk h4
    go_wp2_with fail
    go_ret
    exact ⟨ret_int HE.out.symm, b3⟩
  have H := Lib.hid (H.out.trans (if_neg h4))
  have g4 : decide ((4 : Int) < en) = false := by simp; omega
  clear h4
  go_wp2_with fail
  go_loopw [39] (fun i wr => ∃ k : Nat, k ≤ cn ∧ i = .int .i64 k ∧ Below W.heap.size W wr ∧ Hid (firstE fc k = 0)) (fun i _ => cn - (intOf i).toNat)
  case atStart => exact ⟨0, by omega, rfl, Below.refl _ _, HE0⟩
  case round =>
    obtain ⟨k, hk, rfl, hbr, HF⟩ := hrel
    clear t0 t1 t2 t3
    have aTr := aT.below hbr aT.lt
    have aSr := aS.below hbr aS.lt
    obtain ⟨t0, t1, t2, t3, -⟩ := aTr.four
    have hbw := below_in b3 hbr
    by_cases hlt : k < cn
    · have s0 : wr.cell? ⟨w.heap.size + 1, 0, none⟩ = some (.int .i64 s.ver) := aSr.cell 0
      have s1 : wr.cell? ⟨w.heap.size + 1, 1, none⟩ = some (.slice s.tA s.tn s.tcap) := aSr.cell 1
      have s2 : wr.cell? ⟨w.heap.size + 1, 2, none⟩ = some (.slice s.gA s.gn s.gcap) := aSr.cell 2
      have hc := hCol k hlt wr hbw
      have HH := Lib.hid (HEH.out k HF.out hlt)
      have HN := Lib.hid (HEN.out k HF.out)
      obtain ⟨z, hz⟩ : ∃ z, fc k = z := ⟨_, rfl⟩
      rw [hz] at hc HH HN
      clear hz hCol hChk hrow HEH HEN HXH HXN HX0 HE0 HF
      go_wp2_with fail
      refine hc.mono ?_
      rintro e w2 ⟨rfl, b2⟩
      by_cases hz0 : z = 0
      · subst hz0
        have HNN := HN.out rfl
        go_wp2_with fail
        exact ⟨⟨k + 1, by omega, by go_num, below_in hbr b2, HNN⟩, by simp [intOf]; omega⟩
      · have e0 : (z != 0) = true := by simpa using hz0
        have HEE := Lib.hid (H.out.trans (by rw [HH.out hz0, if_neg hz0]))
        clear hz0 H HH HN
        go_wp2_with fail
        go_ret
        exact ⟨ret_int HEE.out.symm, below_in hbw b2⟩
    · obtain rfl : k = cn := by omega
      have H := Lib.hid (H.out.trans (if_pos HF.out))
      clear hCol HEH HEN HE0 HF
      go_wp2_with fail
      go_loopw [53] (fun i wx => ∃ k' : Nat, k' ≤ en ∧ i = .int .i64 k' ∧ Below wr.heap.size wr wx ∧ Hid (firstE (fun j => fx (chk j)) k' = 0)) (fun i _ => en - (intOf i).toNat)
      case atStart => exact ⟨0, by omega, rfl, Below.refl _ _, HX0⟩
      case round =>
        obtain ⟨k', hk', rfl, hbx, HF⟩ := hrel
        clear t0 t1 t2 t3
        have aTx := aTr.below hbx aTr.lt
        obtain ⟨t0, t1, t2, t3, -⟩ := aTx.four
        have hne := Nat.ne_of_lt aTx.lt
        have hltx := aTx.lt
        have hbwx := below_in hbw hbx
        by_cases hlt' : k' < en
        · obtain ⟨b, off, rfl, hbl, hcell⟩ := hrow (by omega)
          obtain ⟨hcl, hin⟩ := hcell k' hlt'
          obtain ⟨x0, x1, x2, x3, x4, x5⟩ := hcl.keep fun i => hbwx.cell (p := ⟨b, i, none⟩) hbl
          have HH := Lib.hid (HXH.out k' HF.out hlt')
          have HN := Lib.hid (HXN.out k' HF.out)
          have hbwy := hbwx.alloc hbwx.size (.cells #[.int .i64 (chk k').op, .int .i64 (chk k').col, .int .i64 (chk k').v.kind, .int .i64 (chk k').v.num, .string ⟨(chk k').v.text.toArray⟩, .slice (chk k').A (chk k').n (chk k').cap] 45)
          have hc := hChk (chk k') _ (hin.below hbwy) hbwy
          have hbxy := hbx.alloc hbx.size (.cells #[.int .i64 (chk k').op, .int .i64 (chk k').col, .int .i64 (chk k').v.kind, .int .i64 (chk k').v.num, .string ⟨(chk k').v.text.toArray⟩, .slice (chk k').A (chk k').n (chk k').cap] 45)
          obtain ⟨z, hz⟩ : ∃ z, fx (chk k') = z := ⟨_, rfl⟩
          rw [hz] at hc HH HN
          unfold Ex.val at hc
          clear hz hChk hrow HXH HXN HX0 HF hcell hin hcl
          go_wp2_with fail
          refine hc.mono ?_
          rintro e w2 ⟨rfl, b2⟩
          by_cases hz0 : z = 0
          · subst hz0
            have HNN := HN.out rfl
            go_wp2_with fail
            exact ⟨⟨k' + 1, by omega, by go_num, below_in hbxy b2, HNN⟩, by simp [intOf]; omega⟩
          · have e0 : (z != 0) = true := by simpa using hz0
            have HEE := Lib.hid (H.out.trans (HH.out hz0))
            clear hz0 H HH HN
            go_wp2_with fail
            go_ret
            exact ⟨ret_int HEE.out.symm, below_in hbwy b2⟩
        · obtain rfl : k' = en := by omega
          have HEE := Lib.hid (H.out.trans HF.out)
          clear H hChk hrow HXH HXN HX0 HF
          go_wp2_with fail
          go_ret
          exact ⟨ret_int HEE.out.symm, hbwx⟩
end Go.Proofs.Ytlkeagfmlcbogaa
