/- The walks of goodColumn and goodCheck. -/
import Derived.Test.YtlkeagfmlcbogaaQScH
import Derived.Test.YtlkeagfmlcbogaaQScK
namespace Go.Proofs.Ytlkeagfmlcbogaa
open Go.RowKit

def colN (t : Tb) (j : Nat) : List UInt8 := (t.cols.getD j default).name
/-- What is wrong with a column. -/
def colE (t : Tb) (s : Sc) (i : Nat) : Int :=
  if firstI (fun j => (t.cols.getD j default).name) (t.cols.getD i default).name t.cn < (i : Int) then 4
  else if formB (t.cols.getD i default) = false then 4
  else if i = 0 ∧ keyB (t.cols.getD i default) = false then 4
  else if (t.cols.getD i default).ref = [] then 0 else refE (t.cols.getD i default) t s
/-- What is wrong with a check. -/
def chkE (ks : List Int) (x : Ex) : Int := match kindL ks x with | .error r => r | .ok k => if k = 1 ∨ k = 0 then 0 else 9
theorem kindQ_err (ks : List Int) : ∀ (e : Ex) (r : Int), kindQ ks e = .error r → r = 4 ∨ r = 9
  | .nil, r, h => by cases h; exact .inl rfl
  | .mk op col v A n cap arg, r, h => by
    rw [kindQ] at h
    have hb : ∀ (x : Except Int Int) (f : Int → Except Int Int), x.bind f = .error r → x = .error r ∨ ∃ k, f k = .error r := fun x f hx => by
      cases x with
      | error z => exact .inl hx
      | ok k => exact .inr ⟨k, hx⟩
    have hq : ∀ o, toQ o = .error r → r = 9 := fun o ho => by cases o <;> cases ho; rfl
    repeat' split at h
    · cases h; exact .inl rfl
    · cases h; exact .inl rfl
    · cases h
    · cases h; exact .inl rfl
    · unfold colQ at h
      split at h <;> cases h
      exact .inl rfl
    · rcases hb _ _ h with h1 | ⟨k, h1⟩
      · exact kindQ_err ks (arg 0) r h1
      · split at h1 <;> cases h1
        exact .inr rfl
    · cases hk : kindQ ks (arg 0) with
      | error z => rw [hk] at h; cases h; exact kindQ_err ks (arg 0) _ hk
      | ok k => rw [hk] at h; cases h
    · rcases hb _ _ h with h1 | ⟨k, h1⟩
      · exact kindQ_err ks (arg 0) r h1
      · rcases hb _ _ h1 with h2 | ⟨k2, h2⟩
        · exact kindQ_err ks (arg 1) r h2
        · exact .inr (hq _ h2)
theorem kindL_err {ks : List Int} {e : Ex} {r : Int} (h : kindL ks e = .error r) : r ≠ 0 := by
  unfold kindL at h
  split at h
  · cases h; decide
  · have := kindQ_err ks e r h; omega
theorem RowC.kinds {w : World} {A : Option Addr} {n : Nat} {cs : List Co} (h : RowC w A n cs) : Cols w A n (cs.map (·.kind)) := by
  refine ⟨by simpa using h.1, fun hn => ?_⟩
  obtain ⟨b, off, e1, e2, e3⟩ := h.2.2 hn
  refine ⟨b, off, e1, e2, fun j hj => ?_⟩
  have hl : j < cs.length := by rw [h.1]; exact hj
  have := (e3 j hj).2.1
  rw [this]
  simp [List.getElem?_eq_getElem hl]

set_option maxHeartbeats 1600000 in
theorem goodCheck_any (x : Ex) (A : Option Addr) (n cap : Nat) (cs : List Co) (w : World) (hx : InE w x) (hc : RowC w A n cs) (hn : n ≤ maxLen) :
    Calls Try.prog 37 #[x.val, .slice A n cap] w fun e w' => e = .returned (.int .i64 (chkE (cs.map (·.kind)) x)) ∧ Below w.heap.size w w' := by
  have hb := below_box w (.cells #[.int .i64 x.op, .int .i64 x.col, .int .i64 x.v.kind, .int .i64 x.v.num, .string ⟨x.v.text.toArray⟩, .slice x.A x.n x.cap] 45)
  have hk := KindQ_any x A n cap (cs.map (·.kind)) _ (hx.below hb) (hc.kinds.below hb) hn
  have H : Hid (chkE (cs.map (·.kind)) x = match kindL (cs.map (·.kind)) x with | .error r => r | .ok k => if k = 1 ∨ k = 0 then 0 else 9) := rfl
  have HR := @kindL_err (cs.map (·.kind)) x
  generalize kindL (cs.map (·.kind)) x = q at *
  unfold Ex.val at *
  go_enter Try.func37, Try.ntmps37
  go_wp2_with fail
  refine hk.mono ?_
  intro e w2 he
  obtain ⟨he, b2⟩ := he
  have hb2 := below_in hb b2
  cases q with
  | error r =>
    obtain rfl := he
    have hr0 : (r != 0) = true := by have := HR rfl; simpa using this
    have HE := Lib.hid (show chkE (cs.map (·.kind)) x = r from H.out)
    clear HR H
    go_wp2_with fail
    go_ret
    exact ⟨ret_int HE.out.symm, hb2⟩
  | ok k =>
    obtain rfl := he
    clear HR
    by_cases k1 : k = 1
    · subst k1
      go_wp2_with fail
      go_ret
      exact ⟨ret_int (by rw [H.out]; rfl), hb2⟩
    · by_cases k0 : k = 0
      · subst k0
        go_wp2_with fail
        go_ret
        exact ⟨ret_int (by rw [H.out]; rfl), hb2⟩
      · have HE := Lib.hid (show chkE (cs.map (·.kind)) x = 9 by rw [H.out]; simp [k1, k0])
        have e1 : (k != 1) = true := by simpa using k1
        have e0 : (k != 0) = true := by simpa using k0
        clear H k1 k0
        go_wp2_with fail
        go_ret
        exact ⟨ret_int HE.out.symm, hb2⟩

set_option maxRecDepth 100000 in
set_option maxHeartbeats 3200000 in
theorem goodColumn_any (t : Tb) (s : Sc) (i : Nat) (w : World) (ht : InT w t) (hs : InS w s) (hi : i < t.cn) :
    Calls Try.prog 36 #[t.val, .int .i64 (i : Int), s.val] w fun e w' => e = .returned (.int .i64 (colE t s i)) ∧ Below w.heap.size w w' := by
  have H : Hid (colE t s i = if firstI (fun j => (t.cols.getD j default).name) (t.cols.getD i default).name t.cn < (i : Int) then 4
    else if formB (t.cols.getD i default) = false then 4
    else if i = 0 ∧ keyB (t.cols.getD i default) = false then 4
    else if (t.cols.getD i default).ref = [] then 0 else refE (t.cols.getD i default) t s) := rfl
  have hcm := ht.cmax
  unfold maxLen at hcm
  obtain ⟨b, off, hcA, hlt, hcell⟩ := ht.cols.2.2 (by omega)
  obtain ⟨c0, c1, c2, c3, c4, c5⟩ := hcell i hi
  have hcok : (t.cols.getD i default).Ok := by
    have hl : i < t.cols.length := by rw [ht.cols.1]; exact hi
    rw [List.getD_eq_getElem?_getD, List.getElem?_eq_getElem hl]
    exact ht.cols.2.1 _ (List.getElem_mem hl)
  clear hcell
  have hP := fun x w1 (b1 : Below w.heap.size w w1) => Place_any t x w1 (ht.cols.below b1) ht.cmax
  have hR := fun w1 (b1 : Below w.heap.size w w1) => goodRef_any (t.cols.getD i default) t s w1 (ht.below b1) (hs.below b1)
  have hF := hasForm_any (t.cols.getD i default) hcok
  have hK := canBeKey_any (t.cols.getD i default)
  clear ht hs hcok
  generalize (t.cols.getD i default) = c at *
  obtain ⟨f, hf⟩ : ∃ f, firstI (fun j => (t.cols.getD j default).name) c.name t.cn = f := ⟨_, rfl⟩
  have hP := fun w1 b1 => hP c.name w1 b1
  rw [hf] at H hP
  clear hf
  generalize formB c = fb at *
  generalize keyB c = kb at *
  obtain ⟨rfE, hrf⟩ : ∃ r, refE c t s = r := ⟨_, rfl⟩
  rw [hrf] at H hR
  clear hrf
  obtain ⟨nm, kd, nn, un, rf, dl⟩ := c
  simp only at c0 c1 c2 c3 c4 c5 H hP
  obtain ⟨W, hW⟩ : ∃ W, ((w.alloc (.cells #[.string ⟨t.name.toArray⟩, .int .i64 t.owner, .slice t.cA t.cn t.ccap, .slice t.eA t.en t.ecap] 39)).alloc
    (.cells #[.int .i64 s.ver, .slice s.tA s.tn s.tcap, .slice s.gA s.gn s.gcap] 25)).alloc
    (.cells #[.string ⟨nm.toArray⟩, .int .i64 kd, .bool nn, .bool un, .string ⟨rf.toArray⟩, .int .i64 dl] 35) = W := ⟨_, rfl⟩
  have b3 : Below w.heap.size w W := by
    rw [← hW]
    have b0 := below_box w (.cells #[.string ⟨t.name.toArray⟩, .int .i64 t.owner, .slice t.cA t.cn t.ccap, .slice t.eA t.en t.ecap] 39)
    have b1 := b0.alloc b0.size (.cells #[.int .i64 s.ver, .slice s.tA s.tn s.tcap, .slice s.gA s.gn s.gcap] 25)
    exact b1.alloc b1.size _
  have aT : At W w.heap.size 39 #[.string ⟨t.name.toArray⟩, .int .i64 t.owner, .slice t.cA t.cn t.ccap, .slice t.eA t.en t.ecap] := by
    rw [← hW]
    exact ((At.fresh _ _ _).alloc _).alloc _
  have aS : At W (w.heap.size + 1) 25 #[.int .i64 s.ver, .slice s.tA s.tn s.tcap, .slice s.gA s.gn s.gcap] := by
    rw [← hW]
    have := At.fresh (w.alloc (.cells #[.string ⟨t.name.toArray⟩, .int .i64 t.owner, .slice t.cA t.cn t.ccap, .slice t.eA t.en t.ecap] 39)) 25 #[.int .i64 s.ver, .slice s.tA s.tn s.tcap, .slice s.gA s.gn s.gcap]
    simp only [World.size_alloc] at this
    exact this.alloc _
  have aC : At W (w.heap.size + 1 + 1) 35 #[.string ⟨nm.toArray⟩, .int .i64 kd, .bool nn, .bool un, .string ⟨rf.toArray⟩, .int .i64 dl] := by
    rw [← hW]
    have := At.fresh ((w.alloc (.cells #[.string ⟨t.name.toArray⟩, .int .i64 t.owner, .slice t.cA t.cn t.ccap, .slice t.eA t.en t.ecap] 39)).alloc
      (.cells #[.int .i64 s.ver, .slice s.tA s.tn s.tcap, .slice s.gA s.gn s.gcap] 25)) 35 #[.string ⟨nm.toArray⟩, .int .i64 kd, .bool nn, .bool un, .string ⟨rf.toArray⟩, .int .i64 dl]
    simp only [World.size_alloc] at this
    exact this
  have hpW := hP W b3
  unfold Tb.val Sc.val Co.val at *
  rw [hcA] at hW hpW aT hR ⊢
  have hWc := Lib.hid hW
  have hii : (i : Int) < (t.cn : Int) := by omega
  have n0 : ¬ b = w.heap.size := by omega
  have n1 : ¬ b = w.heap.size + 1 := by omega
  have n2 : ¬ b = w.heap.size + 1 + 1 := by omega
  clear hW hP hcA
  go_enter Try.func36, Try.ntmps36
  go_wp2_with fail
  rw [hWc.out]
  refine hpW.mono ?_
  rintro e w2 ⟨rfl, b2⟩
  have hb2 := below_in b3 b2
  have aT2 := aT.below b2 aT.lt
  have aS2 := aS.below b2 aS.lt
  have aC2 := aC.below b2 aC.lt
  clear c0 c1 c2 c3 c4 c5 n0 n1 n2 hWc aT aS aC b3 b2 hpW
  obtain ⟨c0, c1, c2, c3, c4, c5⟩ := aC2.six
  by_cases hlf : f < (i : Int)
  · have HE := Lib.hid (H.out.trans (if_pos hlf))
    have g0 : decide (f < (i : Int)) = true := by simpa using hlf
    clear hlf H hR hF hK
    go_wp2_with fail
    go_ret
    exact ⟨ret_int HE.out.symm, hb2⟩
  have H := Lib.hid (H.out.trans (if_neg hlf))
  have g0 : decide (f < (i : Int)) = false := by simpa using hlf
  clear hlf
  cases fb with
  | false =>
    have HE := Lib.hid (H.out.trans (if_pos rfl))
    clear H hR hK
    go_wp2_with fail
    refine (hF _).mono ?_
    rintro e w3 ⟨rfl, b3⟩
    have hb3 := below_in hb2 b3
    go_wp2_with fail
    go_ret
    exact ⟨ret_int HE.out.symm, hb3⟩
  | true =>
    have H := Lib.hid (H.out.trans (if_neg (by simp)))
    go_wp2_with fail
    refine (hF _).mono ?_
    rintro e w3 ⟨rfl, b3⟩
    have hb3 := below_in hb2 b3
    have aT3 := aT2.below b3 aT2.lt
    have aS3 := aS2.below b3 aS2.lt
    have aC3 := aC2.below b3 aC2.lt
    clear c0 c1 c2 c3 c4 c5 aT2 aS2 aC2 hF b3 hb2
    obtain ⟨c0, c1, c2, c3, c4, c5⟩ := aC3.six
    have last : ∀ w4, Below w3.heap.size w3 w4 → At w4 w.heap.size 39 #[.string ⟨t.name.toArray⟩, .int .i64 t.owner, .slice (some ⟨b, off, none⟩) t.cn t.ccap, .slice t.eA t.en t.ecap] ∧
        At w4 (w.heap.size + 1) 25 #[.int .i64 s.ver, .slice s.tA s.tn s.tcap, .slice s.gA s.gn s.gcap] ∧ At w4 (w.heap.size + 1 + 1) 35 #[.string ⟨nm.toArray⟩, .int .i64 kd, .bool nn, .bool un, .string ⟨rf.toArray⟩, .int .i64 dl] ∧ Below w.heap.size w w4 :=
      fun w4 b4 => ⟨aT3.below b4 aT3.lt, aS3.below b4 aS3.lt, aC3.below b4 aC3.lt, below_in hb3 b4⟩
    by_cases hi0 : i = 0
    · subst hi0
      cases kb with
      | false =>
        have HE := Lib.hid (H.out.trans (if_pos ⟨rfl, rfl⟩))
        clear H hR last
        go_wp2_with fail
        refine (hK _).mono ?_
        rintro e w4 ⟨rfl, b4⟩
        have hb4 := below_in hb3 b4
        go_wp2_with fail
        go_ret
        exact ⟨ret_int HE.out.symm, hb4⟩
      | true =>
        have H2 := Lib.hid (H.out.trans (if_neg (by simp)))
        clear H
        go_wp2_with fail
        refine (hK _).mono ?_
        rintro e w4 ⟨rfl, b4⟩
        obtain ⟨aT4, aS4, aC4, hb4⟩ := last w4 b4
        clear c0 c1 c2 c3 c4 c5 last hK aT3 aS3 aC3 hb3
        obtain ⟨c0, c1, c2, c3, c4, c5⟩ := aC4.six
        obtain ⟨t0, t1, t2, t3, -⟩ := aT4.four
        have s0 : w4.cell? ⟨w.heap.size + 1, 0, none⟩ = some (.int .i64 s.ver) := aS4.cell 0
        have s1 : w4.cell? ⟨w.heap.size + 1, 1, none⟩ = some (.slice s.tA s.tn s.tcap) := aS4.cell 1
        have s2 : w4.cell? ⟨w.heap.size + 1, 2, none⟩ = some (.slice s.gA s.gn s.gcap) := aS4.cell 2
        by_cases hrf : rf = []
        · subst hrf
          have HE := Lib.hid (H2.out.trans (if_pos rfl))
          clear H2 hR
          go_wp2_with fail
          go_ret
          exact ⟨ret_int HE.out.symm, hb4⟩
        · have HE := Lib.hid (H2.out.trans (if_neg hrf))
          obtain ⟨r1, r2, r3⟩ := empty_forms hrf
          clear H2 hrf
          go_wp2_with fail
          refine (hR _ hb4).mono ?_
          rintro e w5 ⟨rfl, b5⟩
          go_wp2_with fail
          go_ret
          exact ⟨ret_int HE.out.symm, below_in hb4 b5⟩
    · have H := Lib.hid (H.out.trans (if_neg (fun h => hi0 h.1)))
      have e0 : ((i : Int) == 0) = false := by simpa using hi0
      obtain ⟨t0, t1, t2, t3, -⟩ := aT3.four
      have s0 : w3.cell? ⟨w.heap.size + 1, 0, none⟩ = some (.int .i64 s.ver) := aS3.cell 0
      have s1 : w3.cell? ⟨w.heap.size + 1, 1, none⟩ = some (.slice s.tA s.tn s.tcap) := aS3.cell 1
      have s2 : w3.cell? ⟨w.heap.size + 1, 2, none⟩ = some (.slice s.gA s.gn s.gcap) := aS3.cell 2
      clear hi0 last hK
      by_cases hrf : rf = []
      · subst hrf
        have HE := Lib.hid (H.out.trans (if_pos rfl))
        clear H hR
        go_wp2_with fail
        go_ret
        exact ⟨ret_int HE.out.symm, hb3⟩
      · have HE := Lib.hid (H.out.trans (if_neg hrf))
        obtain ⟨r1, r2, r3⟩ := empty_forms hrf
        clear H hrf
        go_wp2_with fail
        refine (hR _ hb3).mono ?_
        rintro e w5 ⟨rfl, b5⟩
        go_wp2_with fail
        go_ret
        exact ⟨ret_int HE.out.symm, below_in hb3 b5⟩
end Go.Proofs.Ytlkeagfmlcbogaa
