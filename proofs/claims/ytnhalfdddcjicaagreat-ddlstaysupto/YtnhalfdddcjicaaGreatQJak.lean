/- The walks of goodColumn and goodCheck. -/
/- The walk of Good. -/
/- The walk of the laws' function 'alive'. -/
import Derived.Test.YtnhalfdddcjicaaGreatQJaj
import Derived.Test.YtnhalfdddcjicaaGreatQScK
namespace Go.Proofs.YtnhalfdddcjicaaGreat
open Go.RowKit

def colN (t : Tb) (j : Nat) : List UInt8 := (t.cols.getD j default).name
/-- What is wrong with a column. -/
def colE (t : Tb) (s : Sc) (i : Nat) : Int :=
  if firstI (fun j => (t.cols.getD j default).name) (t.cols.getD i default).name t.cn < (i : Int) then 4
  else if formB (t.cols.getD i default) = false then 4
  else if i = 0 ∧ keyB (t.cols.getD i default) = false then 4
  else if (t.cols.getD i default).ref = [] then 0 else refE (t.cols.getD i default) t s
/-- What is wrong with a check. -/
def chkE (ks : List Int) (x : Ex) : Int := match kindL ks x with | .error r => r | .ok k => if k = 1 ∨ k = 0 then 0 else 9
theorem kindQ_err (ks : List Int) : ∀ (e : Ex) (r : Int), kindQ ks e = .error r → r = 4 ∨ r = 9
  | .nil, r, h => by cases h; exact .inl rfl
  | .mk op col v A n cap arg, r, h => by
    rw [kindQ] at h
    have hb : ∀ (x : Except Int Int) (f : Int → Except Int Int), x.bind f = .error r → x = .error r ∨ ∃ k, f k = .error r := fun x f hx => by
      cases x with
      | error z => exact .inl hx
      | ok k => exact .inr ⟨k, hx⟩
    have hq : ∀ o, toQ o = .error r → r = 9 := fun o ho => by cases o <;> cases ho; rfl
    repeat' split at h
    · cases h; exact .inl rfl
    · cases h; exact .inl rfl
    · cases h
    · cases h; exact .inl rfl
    · unfold colQ at h
      split at h <;> cases h
      exact .inl rfl
    · rcases hb _ _ h with h1 | ⟨k, h1⟩
      · exact kindQ_err ks (arg 0) r h1
      · split at h1 <;> cases h1
        exact .inr rfl
    · cases hk : kindQ ks (arg 0) with
      | error z => rw [hk] at h; cases h; exact kindQ_err ks (arg 0) _ hk
      | ok k => rw [hk] at h; cases h
    · rcases hb _ _ h with h1 | ⟨k, h1⟩
      · exact kindQ_err ks (arg 0) r h1
      · rcases hb _ _ h1 with h2 | ⟨k2, h2⟩
        · exact kindQ_err ks (arg 1) r h2
        · exact .inr (hq _ h2)
theorem kindL_err {ks : List Int} {e : Ex} {r : Int} (h : kindL ks e = .error r) : r ≠ 0 := by
  unfold kindL at h
  split at h
  · cases h; decide
  · have := kindQ_err ks e r h; omega
theorem RowC.kinds {w : World} {A : Option Addr} {n : Nat} {cs : List Co} (h : RowC w A n cs) : Cols w A n (cs.map (·.kind)) := by
  refine ⟨by simpa using h.1, fun hn => ?_⟩
  obtain ⟨b, off, e1, e2, e3⟩ := h.2.2 hn
  refine ⟨b, off, e1, e2, fun j hj => ?_⟩
  have hl : j < cs.length := by rw [h.1]; exact hj
  have := (e3 j hj).2.1
  rw [this]
  simp [List.getElem?_eq_getElem hl]

set_option maxHeartbeats 1600000 in
theorem goodCheck_any (x : Ex) (A : Option Addr) (n cap : Nat) (cs : List Co) (w : World) (hx : InE w x) (hc : RowC w A n cs) (hn : n ≤ maxLen) :
    Calls Tryz.prog 65 #[x.val, .slice A n cap] w fun e w' => e = .returned (.int .i64 (chkE (cs.map (·.kind)) x)) ∧ Below w.heap.size w w' := by
  have hb := below_box w (.cells #[.int .i64 x.op, .int .i64 x.col, .int .i64 x.v.kind, .int .i64 x.v.num, .string ⟨x.v.text.toArray⟩, .slice x.A x.n x.cap] 67)
  have hk := KindQ_any x A n cap (cs.map (·.kind)) _ (hx.below hb) (hc.kinds.below hb) hn
  have H : Hid (chkE (cs.map (·.kind)) x = match kindL (cs.map (·.kind)) x with | .error r => r | .ok k => if k = 1 ∨ k = 0 then 0 else 9) := rfl
  have HR := @kindL_err (cs.map (·.kind)) x
  generalize kindL (cs.map (·.kind)) x = q at *
  unfold Ex.val at *
  go_enter Tryz.func65, Tryz.ntmps65
  go_wp2_with fail
  refine hk.mono ?_
  intro e w2 he
  obtain ⟨he, b2⟩ := he
  have hb2 := below_in hb b2
  cases q with
  | error r =>
    obtain rfl := he
    have hr0 : (r != 0) = true := by have := HR rfl; simpa using this
    have HE := Lib.hid (show chkE (cs.map (·.kind)) x = r from H.out)
    clear HR H
    go_wp2_with fail
    go_ret
    exact ⟨ret_int HE.out.symm, hb2⟩
  | ok k =>
    obtain rfl := he
    clear HR
    by_cases k1 : k = 1
    · subst k1
      go_wp2_with fail
      go_ret
      exact ⟨ret_int (by rw [H.out]; rfl), hb2⟩
    · by_cases k0 : k = 0
      · subst k0
        go_wp2_with fail
        go_ret
        exact ⟨ret_int (by rw [H.out]; rfl), hb2⟩
      · have HE := Lib.hid (show chkE (cs.map (·.kind)) x = 9 by rw [H.out]; simp [k1, k0])
        have e1 : (k != 1) = true := by simpa using k1
        have e0 : (k != 0) = true := by simpa using k0
        clear H k1 k0
        go_wp2_with fail
        go_ret
        exact ⟨ret_int HE.out.symm, hb2⟩

set_option maxRecDepth 100000 in
set_option maxHeartbeats 3200000 in
theorem goodColumn_any (t : Tb) (s : Sc) (i : Nat) (w : World) (ht : InT w t) (hs : InS w s) (hi : i < t.cn) :
    Calls Tryz.prog 64 #[t.val, .int .i64 (i : Int), s.val] w fun e w' => e = .returned (.int .i64 (colE t s i)) ∧ Below w.heap.size w w' := by
  have H : Hid (colE t s i = if firstI (fun j => (t.cols.getD j default).name) (t.cols.getD i default).name t.cn < (i : Int) then 4
    else if formB (t.cols.getD i default) = false then 4
    else if i = 0 ∧ keyB (t.cols.getD i default) = false then 4
    else if (t.cols.getD i default).ref = [] then 0 else refE (t.cols.getD i default) t s) := rfl
  have hcm := ht.cmax
  unfold maxLen at hcm
  obtain ⟨b, off, hcA, hlt, hcell⟩ := ht.cols.2.2 (by omega)
  obtain ⟨c0, c1, c2, c3, c4, c5⟩ := hcell i hi
  have hcok : (t.cols.getD i default).Ok := by
    have hl : i < t.cols.length := by rw [ht.cols.1]; exact hi
    rw [List.getD_eq_getElem?_getD, List.getElem?_eq_getElem hl]
    exact ht.cols.2.1 _ (List.getElem_mem hl)
  clear hcell
  have hP := fun x w1 (b1 : Below w.heap.size w w1) => Place_any t x w1 (ht.cols.below b1) ht.cmax
  have hR := fun w1 (b1 : Below w.heap.size w w1) => goodRef_any (t.cols.getD i default) t s w1 (ht.below b1) (hs.below b1)
  have hF := hasForm_any (t.cols.getD i default) hcok
  have hK := canBeKey_any (t.cols.getD i default)
  clear ht hs hcok
  generalize (t.cols.getD i default) = c at *
  obtain ⟨f, hf⟩ : ∃ f, firstI (fun j => (t.cols.getD j default).name) c.name t.cn = f := ⟨_, rfl⟩
  have hP := fun w1 b1 => hP c.name w1 b1
  rw [hf] at H hP
  clear hf
  generalize formB c = fb at *
  generalize keyB c = kb at *
  obtain ⟨rfE, hrf⟩ : ∃ r, refE c t s = r := ⟨_, rfl⟩
  rw [hrf] at H hR
  clear hrf
  obtain ⟨nm, kd, nn, un, rf, dl⟩ := c
  simp only at c0 c1 c2 c3 c4 c5 H hP
  obtain ⟨W, hW⟩ : ∃ W, ((w.alloc (.cells #[.string ⟨t.name.toArray⟩, .int .i64 t.owner, .slice t.cA t.cn t.ccap, .slice t.eA t.en t.ecap] 32)).alloc
    (.cells #[.int .i64 s.ver, .slice s.tA s.tn s.tcap, .slice s.gA s.gn s.gcap] 25)).alloc
    (.cells #[.string ⟨nm.toArray⟩, .int .i64 kd, .bool nn, .bool un, .string ⟨rf.toArray⟩, .int .i64 dl] 54) = W := ⟨_, rfl⟩
  have b3 : Below w.heap.size w W := by
    rw [← hW]
    have b0 := below_box w (.cells #[.string ⟨t.name.toArray⟩, .int .i64 t.owner, .slice t.cA t.cn t.ccap, .slice t.eA t.en t.ecap] 32)
    have b1 := b0.alloc b0.size (.cells #[.int .i64 s.ver, .slice s.tA s.tn s.tcap, .slice s.gA s.gn s.gcap] 25)
    exact b1.alloc b1.size _
  have aT : At W w.heap.size 32 #[.string ⟨t.name.toArray⟩, .int .i64 t.owner, .slice t.cA t.cn t.ccap, .slice t.eA t.en t.ecap] := by
    rw [← hW]
    exact ((At.fresh _ _ _).alloc _).alloc _
  have aS : At W (w.heap.size + 1) 25 #[.int .i64 s.ver, .slice s.tA s.tn s.tcap, .slice s.gA s.gn s.gcap] := by
    rw [← hW]
    have := At.fresh (w.alloc (.cells #[.string ⟨t.name.toArray⟩, .int .i64 t.owner, .slice t.cA t.cn t.ccap, .slice t.eA t.en t.ecap] 32)) 25 #[.int .i64 s.ver, .slice s.tA s.tn s.tcap, .slice s.gA s.gn s.gcap]
    simp only [World.size_alloc] at this
    exact this.alloc _
  have aC : At W (w.heap.size + 1 + 1) 54 #[.string ⟨nm.toArray⟩, .int .i64 kd, .bool nn, .bool un, .string ⟨rf.toArray⟩, .int .i64 dl] := by
    rw [← hW]
    have := At.fresh ((w.alloc (.cells #[.string ⟨t.name.toArray⟩, .int .i64 t.owner, .slice t.cA t.cn t.ccap, .slice t.eA t.en t.ecap] 32)).alloc
      (.cells #[.int .i64 s.ver, .slice s.tA s.tn s.tcap, .slice s.gA s.gn s.gcap] 25)) 54 #[.string ⟨nm.toArray⟩, .int .i64 kd, .bool nn, .bool un, .string ⟨rf.toArray⟩, .int .i64 dl]
    simp only [World.size_alloc] at this
    exact this
  have hpW := hP W b3
  unfold Tb.val Sc.val Co.val at *
  rw [hcA] at hW hpW aT hR ⊢
  have hWc := Lib.hid hW
  have hii : (i : Int) < (t.cn : Int) := by omega
  have n0 : ¬ b = w.heap.size := by omega
  have n1 : ¬ b = w.heap.size + 1 := by omega
  have n2 : ¬ b = w.heap.size + 1 + 1 := by omega
  clear hW hP hcA
  go_enter Tryz.func64, Tryz.ntmps64
  go_wp2_with fail
  rw [hWc.out]
  refine hpW.mono ?_
  rintro e w2 ⟨rfl, b2⟩
  have hb2 := below_in b3 b2
  have aT2 := aT.below b2 aT.lt
  have aS2 := aS.below b2 aS.lt
  have aC2 := aC.below b2 aC.lt
  clear c0 c1 c2 c3 c4 c5 n0 n1 n2 hWc aT aS aC b3 b2 hpW
  obtain ⟨c0, c1, c2, c3, c4, c5⟩ := aC2.six
  by_cases hlf : f < (i : Int)
  · have HE := Lib.hid (H.out.trans (if_pos hlf))
    have g0 : decide (f < (i : Int)) = true := by simpa using hlf
    clear hlf H hR hF hK
    go_wp2_with fail
    go_ret
    exact ⟨ret_int HE.out.symm, hb2⟩
  have H := Lib.hid (H.out.trans (if_neg hlf))
  have g0 : decide (f < (i : Int)) = false := by simpa using hlf
  clear hlf
  cases fb with
  | false =>
    have HE := Lib.hid (H.out.trans (if_pos rfl))
    clear H hR hK
    go_wp2_with fail
    refine (hF _).mono ?_
    rintro e w3 ⟨rfl, b3⟩
    have hb3 := below_in hb2 b3
    go_wp2_with fail
    go_ret
    exact ⟨ret_int HE.out.symm, hb3⟩
  | true =>
    have H := Lib.hid (H.out.trans (if_neg (by simp)))
    go_wp2_with fail
    refine (hF _).mono ?_
    rintro e w3 ⟨rfl, b3⟩
    have hb3 := below_in hb2 b3
    have aT3 := aT2.below b3 aT2.lt
    have aS3 := aS2.below b3 aS2.lt
    have aC3 := aC2.below b3 aC2.lt
    clear c0 c1 c2 c3 c4 c5 aT2 aS2 aC2 hF b3 hb2
    obtain ⟨c0, c1, c2, c3, c4, c5⟩ := aC3.six
    have last : ∀ w4, Below w3.heap.size w3 w4 → At w4 w.heap.size 32 #[.string ⟨t.name.toArray⟩, .int .i64 t.owner, .slice (some ⟨b, off, none⟩) t.cn t.ccap, .slice t.eA t.en t.ecap] ∧
        At w4 (w.heap.size + 1) 25 #[.int .i64 s.ver, .slice s.tA s.tn s.tcap, .slice s.gA s.gn s.gcap] ∧ At w4 (w.heap.size + 1 + 1) 54 #[.string ⟨nm.toArray⟩, .int .i64 kd, .bool nn, .bool un, .string ⟨rf.toArray⟩, .int .i64 dl] ∧ Below w.heap.size w w4 :=
      fun w4 b4 => ⟨aT3.below b4 aT3.lt, aS3.below b4 aS3.lt, aC3.below b4 aC3.lt, below_in hb3 b4⟩
    by_cases hi0 : i = 0
    · subst hi0
      cases kb with
      | false =>
        have HE := Lib.hid (H.out.trans (if_pos ⟨rfl, rfl⟩))
        clear H hR last
        go_wp2_with fail
        refine (hK _).mono ?_
        rintro e w4 ⟨rfl, b4⟩
        have hb4 := below_in hb3 b4
        go_wp2_with fail
        go_ret
        exact ⟨ret_int HE.out.symm, hb4⟩
      | true =>
        have H2 := Lib.hid (H.out.trans (if_neg (by simp)))
        clear H
        go_wp2_with fail
        refine (hK _).mono ?_
        rintro e w4 ⟨rfl, b4⟩
        obtain ⟨aT4, aS4, aC4, hb4⟩ := last w4 b4
        clear c0 c1 c2 c3 c4 c5 last hK aT3 aS3 aC3 hb3
        obtain ⟨c0, c1, c2, c3, c4, c5⟩ := aC4.six
        obtain ⟨t0, t1, t2, t3, -⟩ := aT4.four
        have s0 : w4.cell? ⟨w.heap.size + 1, 0, none⟩ = some (.int .i64 s.ver) := aS4.cell 0
        have s1 : w4.cell? ⟨w.heap.size + 1, 1, none⟩ = some (.slice s.tA s.tn s.tcap) := aS4.cell 1
        have s2 : w4.cell? ⟨w.heap.size + 1, 2, none⟩ = some (.slice s.gA s.gn s.gcap) := aS4.cell 2
        by_cases hrf : rf = []
        · subst hrf
          have HE := Lib.hid (H2.out.trans (if_pos rfl))
          clear H2 hR
          go_wp2_with fail
          go_ret
          exact ⟨ret_int HE.out.symm, hb4⟩
        · have HE := Lib.hid (H2.out.trans (if_neg hrf))
          obtain ⟨r1, r2, r3⟩ := empty_forms hrf
          clear H2 hrf
          go_wp2_with fail
          refine (hR _ hb4).mono ?_
          rintro e w5 ⟨rfl, b5⟩
          go_wp2_with fail
          go_ret
          exact ⟨ret_int HE.out.symm, below_in hb4 b5⟩
    · have H := Lib.hid (H.out.trans (if_neg (fun h => hi0 h.1)))
      have e0 : ((i : Int) == 0) = false := by simpa using hi0
      obtain ⟨t0, t1, t2, t3, -⟩ := aT3.four
      have s0 : w3.cell? ⟨w.heap.size + 1, 0, none⟩ = some (.int .i64 s.ver) := aS3.cell 0
      have s1 : w3.cell? ⟨w.heap.size + 1, 1, none⟩ = some (.slice s.tA s.tn s.tcap) := aS3.cell 1
      have s2 : w3.cell? ⟨w.heap.size + 1, 2, none⟩ = some (.slice s.gA s.gn s.gcap) := aS3.cell 2
      clear hi0 last hK
      by_cases hrf : rf = []
      · subst hrf
        have HE := Lib.hid (H.out.trans (if_pos rfl))
        clear H hR
        go_wp2_with fail
        go_ret
        exact ⟨ret_int HE.out.symm, hb3⟩
      · have HE := Lib.hid (H.out.trans (if_neg hrf))
        obtain ⟨r1, r2, r3⟩ := empty_forms hrf
        clear H hrf
        go_wp2_with fail
        refine (hR _ hb3).mono ?_
        rintro e w5 ⟨rfl, b5⟩
        go_wp2_with fail
        go_ret
        exact ⟨ret_int HE.out.symm, below_in hb3 b5⟩
end Go.Proofs.YtnhalfdddcjicaaGreat

namespace Go.Proofs.YtnhalfdddcjicaaGreat
open Go.RowKit

/-- The first error of n. -/
def firstE (f : Nat → Int) : Nat → Int
  | 0 => 0
  | n + 1 => if firstE f n = 0 then f n else firstE f n
theorem firstE_more {f : Nat → Int} {k : Nat} (h : firstE f k ≠ 0) : ∀ d, firstE f (k + d) = firstE f k
  | 0 => rfl
  | d + 1 => by rw [← Nat.add_assoc, firstE, firstE_more h d, if_neg h]
theorem firstE_hit {f : Nat → Int} {k n : Nat} (h : firstE f k = 0) (hk : k < n) (e : f k ≠ 0) : firstE f n = f k := by
  have h1 : firstE f (k + 1) = f k := by rw [firstE, if_pos h]
  have h2 := firstE_more (f := f) (k := k + 1) (by rw [h1]; exact e) (n - (k + 1))
  rw [show k + 1 + (n - (k + 1)) = n by omega] at h2
  rw [h2, h1]
theorem firstE_next {f : Nat → Int} {k : Nat} (h : firstE f k = 0) (e : f k = 0) : firstE f (k + 1) = 0 := by rw [firstE, if_pos h, e]
def goodE (t : Tb) (s : Sc) : Int :=
  if nameN t.name = false then 4 else if roleB t.owner = false then 4 else if t.cn = 0 then 4
  else if 6 < t.cn then 3 else if 4 < t.en then 3
  else if firstE (colE t s) t.cn = 0 then firstE (fun j => chkE (t.cols.map (·.kind)) (t.chk j)) t.en else firstE (colE t s) t.cn

set_option maxRecDepth 100000 in
set_option maxHeartbeats 6400000 in
theorem tgood_any (t : Tb) (s : Sc) (w : World) (ht : InT w t) (hs : InS w s) :
    Calls Tryz.prog 30 #[t.val, s.val] w fun e w' => e = .returned (.int .i64 (goodE t s)) ∧ Below w.heap.size w w' := by
  have H : Hid (goodE t s = if nameN t.name = false then 4 else if roleB t.owner = false then 4 else if t.cn = 0 then 4
    else if 6 < t.cn then 3 else if 4 < t.en then 3
    else if firstE (colE t s) t.cn = 0 then firstE (fun j => chkE (t.cols.map (·.kind)) (t.chk j)) t.en else firstE (colE t s) t.cn) := rfl
  have hN := name_any t.name ht.name
  have hO := isRole_any t.owner
  have hcm := ht.cmax
  have hem := ht.emax
  unfold maxLen at hcm hem
  have hCol := fun i hi w1 (b1 : Below w.heap.size w w1) => goodColumn_any t s i w1 (ht.below b1) (hs.below b1) hi
  have hChk := fun x w1 hx (b1 : Below w.heap.size w w1) => goodCheck_any x t.cA t.cn t.ccap t.cols w1 hx (ht.cols.below b1) ht.cmax
  have hrow := ht.chk
  clear ht hs
  have hEH : ∀ k, firstE (colE t s) k = 0 → k < t.cn → colE t s k ≠ 0 → firstE (colE t s) t.cn = colE t s k := fun k h1 h2 h3 => firstE_hit h1 h2 h3
  have hEN : ∀ k, firstE (colE t s) k = 0 → colE t s k = 0 → firstE (colE t s) (k + 1) = 0 := fun k h1 h3 => firstE_next h1 h3
  have hXH : ∀ k, firstE (fun j => chkE (t.cols.map (·.kind)) (t.chk j)) k = 0 → k < t.en → chkE (t.cols.map (·.kind)) (t.chk k) ≠ 0 → firstE (fun j => chkE (t.cols.map (·.kind)) (t.chk j)) t.en = chkE (t.cols.map (·.kind)) (t.chk k) := fun k h1 h2 h3 => firstE_hit h1 h2 h3
  have hXN : ∀ k, firstE (fun j => chkE (t.cols.map (·.kind)) (t.chk j)) k = 0 → chkE (t.cols.map (·.kind)) (t.chk k) = 0 → firstE (fun j => chkE (t.cols.map (·.kind)) (t.chk j)) (k + 1) = 0 := fun k h1 h3 => firstE_next h1 h3
  have hE0 : firstE (colE t s) 0 = 0 := rfl
  have hX0 : firstE (fun j => chkE (t.cols.map (·.kind)) (t.chk j)) 0 = 0 := rfl
  generalize colE t s = fc at *
  obtain ⟨fx, hfx⟩ : ∃ fx, (fun x => chkE (t.cols.map (·.kind)) x) = fx := ⟨_, rfl⟩
  have hfx' : ∀ x, chkE (t.cols.map (·.kind)) x = fx x := fun x => by rw [← hfx]
  simp only [hfx'] at H hChk hXH hXN hX0
  have HEH := Lib.hid hEH
  have HEN := Lib.hid hEN
  have HXH := Lib.hid hXH
  have HXN := Lib.hid hXN
  have HE0 := Lib.hid hE0
  have HX0 := Lib.hid hX0
  clear hfx hfx' hEH hEN hXH hXN hE0 hX0
  obtain ⟨tnm, ow, cA, cn, ccap, cols, eA, en, ecap, chk⟩ := t
  unfold Tb.val Sc.val at *
  simp only at H hN hO hcm hem hCol hChk hrow HEH HEN HXH HXN HX0 ⊢
  obtain ⟨W, hW⟩ : ∃ W, (w.alloc (.cells #[.string ⟨tnm.toArray⟩, .int .i64 ow, .slice cA cn ccap, .slice eA en ecap] 32)).alloc
    (.cells #[.int .i64 s.ver, .slice s.tA s.tn s.tcap, .slice s.gA s.gn s.gcap] 25) = W := ⟨_, rfl⟩
  have b3 : Below w.heap.size w W := by
    rw [← hW]
    have b0 := below_box w (.cells #[.string ⟨tnm.toArray⟩, .int .i64 ow, .slice cA cn ccap, .slice eA en ecap] 32)
    exact b0.alloc b0.size _
  have aT : At W w.heap.size 32 #[.string ⟨tnm.toArray⟩, .int .i64 ow, .slice cA cn ccap, .slice eA en ecap] := by
    rw [← hW]
    exact (At.fresh _ _ _).alloc _
  have aS : At W (w.heap.size + 1) 25 #[.int .i64 s.ver, .slice s.tA s.tn s.tcap, .slice s.gA s.gn s.gcap] := by
    rw [← hW]
    have := At.fresh (w.alloc (.cells #[.string ⟨tnm.toArray⟩, .int .i64 ow, .slice cA cn ccap, .slice eA en ecap] 32)) 25 #[.int .i64 s.ver, .slice s.tA s.tn s.tcap, .slice s.gA s.gn s.gcap]
    simp only [World.size_alloc] at this
    exact this
  have hWc := Lib.hid hW
  clear hW
  go_enter Tryz.func30, Tryz.ntmps30
  go_wp2_with fail
  rw [hWc.out]
  clear hWc
  refine (hN _).mono ?_
  rintro e w1 ⟨rfl, rfl⟩
  obtain ⟨t0, t1, t2, t3, -⟩ := aT.four
  cases hnm : nameN tnm with
  | false =>
    have HE := Lib.hid (H.out.trans (if_pos hnm))
    clear H hCol hChk
    go_wp2_with fail
    go_ret
    exact ⟨ret_int HE.out.symm, b3⟩
  | true =>
  have H := Lib.hid (H.out.trans (if_neg (by rw [hnm]; simp)))
  clear hnm hN
  go_wp2_with fail
  refine (hO _).mono ?_
  rintro e w1 ⟨rfl, rfl⟩
  cases hro : roleB ow with
  | false =>
    have HE := Lib.hid (H.out.trans (if_pos hro))
    clear H hCol hChk
    go_wp2_with fail
    go_ret
    exact ⟨ret_int HE.out.symm, b3⟩
  | true =>
  have H := Lib.hid (H.out.trans (if_neg (by rw [hro]; simp)))
  clear hro hO
  by_cases h0 : cn = 0
  · have HE := Lib.hid (H.out.trans (if_pos h0))
    have g0 : ((cn : Int) == 0) = true := by simp; omega
    clear H hCol hChk h0
    go_wp2_with fail
    go_ret
    exact ⟨ret_int HE.out.symm, b3⟩
  have H := Lib.hid (H.out.trans (if_neg h0))
  have g0 : ((cn : Int) == 0) = false := by simp; omega
  clear h0
  by_cases h6 : 6 < cn
  · have HE := Lib.hid (H.out.trans (if_pos h6))
    have g6 : decide ((6 : Int) < cn) = true := by simp; omega
    clear H hCol hChk h6
    go_wp2_with fail
    go_ret
    exact ⟨ret_int HE.out.symm, b3⟩
  have H := Lib.hid (H.out.trans (if_neg h6))
  have g6 : decide ((6 : Int) < cn) = false := by simp; omega
  clear h6
  by_cases h4 : 4 < en
  · have HE := Lib.hid (H.out.trans (if_pos h4))
    have g4 : decide ((4 : Int) < en) = true := by simp; omega
    clear H hCol hChk h4
    go_wp2_with fail
    go_ret
    exact ⟨ret_int HE.out.symm, b3⟩
  have H := Lib.hid (H.out.trans (if_neg h4))
  have g4 : decide ((4 : Int) < en) = false := by simp; omega
  clear h4
  go_wp2_with fail
  go_loopw [39] (fun i wr => ∃ k : Nat, k ≤ cn ∧ i = .int .i64 k ∧ Below W.heap.size W wr ∧ Hid (firstE fc k = 0)) (fun i _ => cn - (intOf i).toNat)
  case atStart => exact ⟨0, by omega, rfl, Below.refl _ _, HE0⟩
  case round =>
    obtain ⟨k, hk, rfl, hbr, HF⟩ := hrel
    clear t0 t1 t2 t3
    have aTr := aT.below hbr aT.lt
    have aSr := aS.below hbr aS.lt
    obtain ⟨t0, t1, t2, t3, -⟩ := aTr.four
    have hbw := below_in b3 hbr
    by_cases hlt : k < cn
    · have s0 : wr.cell? ⟨w.heap.size + 1, 0, none⟩ = some (.int .i64 s.ver) := aSr.cell 0
      have s1 : wr.cell? ⟨w.heap.size + 1, 1, none⟩ = some (.slice s.tA s.tn s.tcap) := aSr.cell 1
      have s2 : wr.cell? ⟨w.heap.size + 1, 2, none⟩ = some (.slice s.gA s.gn s.gcap) := aSr.cell 2
      have hc := hCol k hlt wr hbw
      have HH := Lib.hid (HEH.out k HF.out hlt)
      have HN := Lib.hid (HEN.out k HF.out)
      obtain ⟨z, hz⟩ : ∃ z, fc k = z := ⟨_, rfl⟩
      rw [hz] at hc HH HN
      clear hz hCol hChk hrow HEH HEN HXH HXN HX0 HE0 HF
      go_wp2_with fail
      refine hc.mono ?_
      rintro e w2 ⟨rfl, b2⟩
      by_cases hz0 : z = 0
      · subst hz0
        have HNN := HN.out rfl
        go_wp2_with fail
        exact ⟨⟨k + 1, by omega, by go_num, below_in hbr b2, HNN⟩, by simp [intOf]; omega⟩
      · have e0 : (z != 0) = true := by simpa using hz0
        have HEE := Lib.hid (H.out.trans (by rw [HH.out hz0, if_neg hz0]))
        clear hz0 H HH HN
        go_wp2_with fail
        go_ret
        exact ⟨ret_int HEE.out.symm, below_in hbw b2⟩
    · obtain rfl : k = cn := by omega
      have H := Lib.hid (H.out.trans (if_pos HF.out))
      clear hCol HEH HEN HE0 HF
      go_wp2_with fail
      go_loopw [53] (fun i wx => ∃ k' : Nat, k' ≤ en ∧ i = .int .i64 k' ∧ Below wr.heap.size wr wx ∧ Hid (firstE (fun j => fx (chk j)) k' = 0)) (fun i _ => en - (intOf i).toNat)
      case atStart => exact ⟨0, by omega, rfl, Below.refl _ _, HX0⟩
      case round =>
        obtain ⟨k', hk', rfl, hbx, HF⟩ := hrel
        clear t0 t1 t2 t3
        have aTx := aTr.below hbx aTr.lt
        obtain ⟨t0, t1, t2, t3, -⟩ := aTx.four
        have hne := Nat.ne_of_lt aTx.lt
        have hltx := aTx.lt
        have hbwx := below_in hbw hbx
        by_cases hlt' : k' < en
        · obtain ⟨b, off, rfl, hbl, hcell⟩ := hrow (by omega)
          obtain ⟨hcl, hin⟩ := hcell k' hlt'
          obtain ⟨x0, x1, x2, x3, x4, x5⟩ := hcl.keep fun i => hbwx.cell (p := ⟨b, i, none⟩) hbl
          have HH := Lib.hid (HXH.out k' HF.out hlt')
          have HN := Lib.hid (HXN.out k' HF.out)
          have hbwy := hbwx.alloc hbwx.size (.cells #[.int .i64 (chk k').op, .int .i64 (chk k').col, .int .i64 (chk k').v.kind, .int .i64 (chk k').v.num, .string ⟨(chk k').v.text.toArray⟩, .slice (chk k').A (chk k').n (chk k').cap] 67)
          have hc := hChk (chk k') _ (hin.below hbwy) hbwy
          have hbxy := hbx.alloc hbx.size (.cells #[.int .i64 (chk k').op, .int .i64 (chk k').col, .int .i64 (chk k').v.kind, .int .i64 (chk k').v.num, .string ⟨(chk k').v.text.toArray⟩, .slice (chk k').A (chk k').n (chk k').cap] 67)
          obtain ⟨z, hz⟩ : ∃ z, fx (chk k') = z := ⟨_, rfl⟩
          rw [hz] at hc HH HN
          unfold Ex.val at hc
          clear hz hChk hrow HXH HXN HX0 HF hcell hin hcl
          go_wp2_with fail
          refine hc.mono ?_
          rintro e w2 ⟨rfl, b2⟩
          by_cases hz0 : z = 0
          · subst hz0
            have HNN := HN.out rfl
            go_wp2_with fail
            exact ⟨⟨k' + 1, by omega, by go_num, below_in hbxy b2, HNN⟩, by simp [intOf]; omega⟩
          · have e0 : (z != 0) = true := by simpa using hz0
            have HEE := Lib.hid (H.out.trans (HH.out hz0))
            clear hz0 H HH HN
            go_wp2_with fail
            go_ret
            exact ⟨ret_int HEE.out.symm, below_in hbwy b2⟩
        · obtain rfl : k' = en := by omega
          have HEE := Lib.hid (H.out.trans HF.out)
          clear H hChk hrow HXH HXN HX0 HF
          go_wp2_with fail
          go_ret
          exact ⟨ret_int HEE.out.symm, hbwx⟩
end Go.Proofs.YtnhalfdddcjicaaGreat

namespace Go.Proofs.YtnhalfdddcjicaaGreat
open Go.RowKit

def noT : Tb := ⟨[97], 0, none, 0, 0, [], none, 0, 0, fun _ => .nil⟩
def noS : Sc := ⟨0, none, 0, 0, fun _ => default, none, 0, 0, []⟩
def idC : Co := ⟨[105, 100], 1, true, false, [], 0⟩
def idT (g : Nat) : Tb := ⟨[97], 0, some ⟨g, 0, none⟩, 1, 1, [idC], none, 0, 0, fun _ => .nil⟩
theorem in_noT (w : World) : InT w noT := ⟨by unfold I64; decide, by unfold maxLen; decide, by unfold maxLen; decide, by unfold maxLen; decide, ⟨rfl, by simp [noT], fun h => absurd h (by decide)⟩, fun h => absurd h (by decide)⟩
theorem in_noS (w : World) : InS w noS := ⟨by unfold I64; decide, by unfold maxLen; decide, by unfold maxLen; decide, fun h => absurd h (by decide), ⟨rfl, by simp [noS], fun h => absurd h (by decide)⟩⟩
theorem in_idT {w : World} {g : Nat} (h : At w g 54 #[.string ⟨#[105, 100]⟩, .int .i64 1, .bool true, .bool false, .string ⟨#[]⟩, .int .i64 0]) : InT w (idT g) := by
  refine ⟨by show I64 0; unfold I64; decide, by show 1 ≤ maxLen; unfold maxLen; decide, by show 1 ≤ maxLen; unfold maxLen; decide, by show 0 ≤ maxLen; unfold maxLen; decide, ⟨rfl, ?_, fun _ => ⟨g, 0, rfl, h.lt, fun j hj => ?_⟩⟩, fun h => absurd (show 0 < 0 from h) (by decide)⟩
  · intro c hc
    have : c = idC := by simpa [idT] using hc
    subst this
    exact ⟨by unfold I64; decide, by unfold I64; decide, by unfold maxLen; decide, by unfold maxLen; decide⟩
  · obtain rfl : j = 0 := by have : j < 1 := hj; omega
    obtain ⟨c0, c1, c2, c3, c4, c5⟩ := h.six
    exact ⟨c0, c1, c2, c3, c4, c5⟩
theorem goodE_noT : goodE noT noS = 4 := rfl
theorem goodE_idT (g : Nat) : goodE (idT g) noS = 0 := rfl
theorem place_idT (g : Nat) : firstI (fun j => ((idT g).cols.getD j default).name) [120] (idT g).cn = -1 := rfl
theorem name_a1 : nameN [97, 95, 49] = true := rfl

end Go.Proofs.YtnhalfdddcjicaaGreat
