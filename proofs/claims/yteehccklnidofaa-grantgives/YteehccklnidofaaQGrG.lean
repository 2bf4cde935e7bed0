/- The walks of the reference's Owns and May. -/
import Derived.Test.YteehccklnidofaaQGrF
namespace Go.Proofs.Yteehccklnidofaa
open Go.RowKit

theorem firstI_of {s : Sc} {t : List UInt8} : firstI (fun j => (s.tab j).name) t s.tn = match tabAt s t with | some j => (j : Int) | none => -1 := rfl

set_option maxRecDepth 100000 in
set_option maxHeartbeats 1600000 in
theorem rowns_any (s : Sc) (r : Int) (t : List UInt8) (w : World) (hs : InS w s) :
    Calls Try.prog 21 #[s.val, .int .i64 r, .string ⟨t.toArray⟩] w fun e w' => e = .returned (.bool (ownsS s r t)) ∧ Below w.heap.size w w' := by
  have b0 := below_box w (.cells #[.int .i64 s.ver, .slice s.tA s.tn s.tcap, .slice s.gA s.gn s.gcap] 36)
  have aS := At.fresh w 36 #[.int .i64 s.ver, .slice s.tA s.tn s.tcap, .slice s.gA s.gn s.gcap]
  have hF := fun w' (b : Below w.heap.size w w') => refFind_any s t w' (hs.below b)
  rw [firstI_of] at hF
  obtain ⟨R, hR⟩ : ∃ R, ownsS s r t = R := ⟨_, rfl⟩
  rw [hR]
  unfold ownsS at hR
  unfold Sc.val at hF ⊢
  cases hf : tabAt s t with
  | none =>
    rw [hf] at hR hF
    simp only at hR hF
    have HR : Hid (R = false) := hR.symm
    clear hR
    go_enter Try.func21, Try.ntmps21
    go_wp2_with fail
    refine (hF _ b0).mono ?_
    rintro e w1 ⟨rfl, b1⟩
    have hb1 := below_in b0 b1
    obtain ⟨c0, c1, c2⟩ := (aS.below b1 aS.lt).tri0
    go_wp2_with fail
    go_ret
    exact ⟨by rw [HR.out]; first | rfl | (show Ending.returned (Value.bool _) = _; congr 2; simp; omega), hb1⟩
  | some j =>
    rw [hf] at hR hF
    simp only at hR hF
    have hj : j < s.tn := (firstAt_some hf).1
    obtain ⟨b, off, htA, hbl, hcell⟩ := hs.tabs (by omega)
    have hcl := (hcell j hj).1
    generalize s.tab j = T at hcl hR
    have hjI : (j : Int) < (s.tn : Int) := by omega
    have hcl1 := fun w1 (b1 : Below w.heap.size w w1) => hcl.keep fun i => b1.cell (p := ⟨b, i, none⟩) hbl
    clear hcl hcell
    rw [htA] at hF aS b0
    rw [htA]
    by_cases h0 : 0 ≤ r
    · by_cases h7 : r ≤ 7
      · rw [decide_eq_true (show 0 ≤ r ∧ r ≤ 7 from ⟨h0, h7⟩)] at hR
        by_cases hr0 : r = 0
        · subst hr0
          have HR : Hid (R = true) := by show R = true; rw [← hR]; rfl
          clear hR
          go_enter Try.func21, Try.ntmps21
          go_wp2_with fail
          refine (hF _ b0).mono ?_
          rintro e w1 ⟨rfl, b1⟩
          have hb1 := below_in b0 b1
          obtain ⟨c0, c1, c2⟩ := (aS.below b1 aS.lt).tri0
          obtain ⟨t0, t1, t2, t3⟩ := hcl1 _ hb1
          go_wp2_with fail
          go_ret
          exact ⟨by rw [HR.out]; first | rfl | (show Ending.returned (Value.bool _) = _; congr 2; simp; omega), hb1⟩
        · have hr0' : (r == 0) = false := by simpa using hr0
          by_cases hro : T.owner = r
          · have HR : Hid (R = true) := by show R = true; rw [← hR, decide_eq_true hro.symm]; simp
            clear hR
            have hro' : (T.owner == r) = true := by simpa using hro
            go_enter Try.func21, Try.ntmps21
            go_wp2_with fail
            refine (hF _ b0).mono ?_
            rintro e w1 ⟨rfl, b1⟩
            have hb1 := below_in b0 b1
            obtain ⟨c0, c1, c2⟩ := (aS.below b1 aS.lt).tri0
            obtain ⟨t0, t1, t2, t3⟩ := hcl1 _ hb1
            rw [hro] at t1
            clear hro hro'
            go_wp2_with fail
            go_ret
            exact ⟨by rw [HR.out]; first | rfl | (show Ending.returned (Value.bool _) = _; congr 2; simp; omega), hb1⟩
          · have HR : Hid (R = false) := by show R = false; rw [← hR, decide_eq_false hr0, decide_eq_false (show ¬ r = T.owner from fun e => hro e.symm)]; rfl
            clear hR
            have hro' : (T.owner == r) = false := by simpa using hro
            go_enter Try.func21, Try.ntmps21
            go_wp2_with fail
            refine (hF _ b0).mono ?_
            rintro e w1 ⟨rfl, b1⟩
            have hb1 := below_in b0 b1
            obtain ⟨c0, c1, c2⟩ := (aS.below b1 aS.lt).tri0
            obtain ⟨t0, t1, t2, t3⟩ := hcl1 _ hb1
            go_wp2_with fail
            go_ret
            exact ⟨by rw [HR.out]; first | rfl | (show Ending.returned (Value.bool _) = _; congr 2; simp; omega), hb1⟩
      · have HR : Hid (R = false) := by show R = false; rw [← hR, decide_eq_false (by omega)]; rfl
        clear hR
        go_enter Try.func21, Try.ntmps21
        go_wp2_with fail
        refine (hF _ b0).mono ?_
        rintro e w1 ⟨rfl, b1⟩
        have hb1 := below_in b0 b1
        obtain ⟨c0, c1, c2⟩ := (aS.below b1 aS.lt).tri0
        obtain ⟨t0, t1, t2, t3⟩ := hcl1 _ hb1
        go_wp2_with fail
        go_ret
        exact ⟨by rw [HR.out]; first | rfl | (show Ending.returned (Value.bool _) = _; congr 2; simp; omega), hb1⟩
    · have HR : Hid (R = false) := by show R = false; rw [← hR, decide_eq_false (by omega)]; rfl
      clear hR
      go_enter Try.func21, Try.ntmps21
      go_wp2_with fail
      refine (hF _ b0).mono ?_
      rintro e w1 ⟨rfl, b1⟩
      have hb1 := below_in b0 b1
      obtain ⟨c0, c1, c2⟩ := (aS.below b1 aS.lt).tri0
      obtain ⟨t0, t1, t2, t3⟩ := hcl1 _ hb1
      go_wp2_with fail
      go_ret
      exact ⟨by rw [HR.out]; first | rfl | (show Ending.returned (Value.bool _) = _; congr 2; simp; omega), hb1⟩

def RMayE (s : Sc) (r : Int) (t : List UInt8) (x : Int) (e : Ending) : Prop := ∃ B : Bool, e = .returned (.bool B) ∧ (B = true ↔ MayP s r t x)

set_option maxRecDepth 100000 in
set_option maxHeartbeats 1600000 in
theorem rmay_any (s : Sc) (r : Int) (t : List UInt8) (x : Int) (w : World) (hs : InS w s) :
    Calls Try.prog 23 #[s.val, .int .i64 r, .string ⟨t.toArray⟩, .int .i64 x] w fun e w' => RMayE s r t x e ∧ Below w.heap.size w w' := by
  have HM : Hid (∀ B : Bool, (B = true ↔ MayP s r t x) → RMayE s r t x (.returned (.bool B))) := by
    show ∀ _, _
    exact fun B h => ⟨B, rfl, h⟩
  have b0 := below_box w (.cells #[.int .i64 s.ver, .slice s.tA s.tn s.tcap, .slice s.gA s.gn s.gcap] 36)
  have aS := At.fresh w 36 #[.int .i64 s.ver, .slice s.tA s.tn s.tcap, .slice s.gA s.gn s.gcap]
  have hF := fun w' (b : Below w.heap.size w w') => refFind_any s t w' (hs.below b)
  have hW := fun w' (b : Below w.heap.size w w') => rowns_any s r t w' (hs.below b)
  rw [firstI_of] at hF
  have hgm := hs.gmax
  unfold maxLen at hgm
  unfold Sc.val at hF hW ⊢
  cases hf : tabAt s t with
  | none =>
    have HE := Lib.hid (HM.out false ⟨fun h => (by cases h), fun h => absurd hf h.1⟩)
    rw [hf] at hF
    simp only at hF
    clear hW
    go_enter Try.func23, Try.ntmps23
    go_wp2_with fail
    refine (hF _ b0).mono ?_
    rintro e w1 ⟨rfl, b1⟩
    have hb1 := below_in b0 b1
    go_wp2_with fail
    go_ret
    exact ⟨HE.out, hb1⟩
  | some j =>
    rw [hf] at hF
    simp only at hF
    have hj0 : ¬ ((j : Int) < 0) := by omega
    by_cases hr7 : 0 ≤ r ∧ r ≤ 7
    · obtain ⟨h0, h7⟩ := hr7
      have hne : tabAt s t ≠ none := by rw [hf]; intro e; cases e
      have HHit : Hid (hasG s.grants r t x → RMayE s r t x (.returned (.bool true))) := by
        show _ → _
        exact fun h => HM.out true ⟨fun _ => ⟨hne, ⟨h0, h7⟩, .inr h⟩, fun _ => rfl⟩
      have HEnd : Hid (¬ hasG s.grants r t x → RMayE s r t x (.returned (.bool (ownsS s r t)))) := by
        show _ → _
        exact fun h => HM.out _ ⟨fun o => ⟨hne, ⟨h0, h7⟩, .inl o⟩, fun m => m.2.2.resolve_right h⟩
      clear hne HM
      generalize ownsS s r t = O at *
      go_enter Try.func23, Try.ntmps23
      go_wp2_with fail
      refine (hF _ b0).mono ?_
      rintro e w1 ⟨rfl, b1⟩
      have hb1 := below_in b0 b1
      have aS1 := aS.below b1 aS.lt
      obtain ⟨c0, c1, c2⟩ := aS1.tri0
      go_wp2_with fail
      go_loopw [26] (fun iv wr => ∃ (k : Nat), k ≤ s.gn ∧ iv = .int .i64 k ∧ Hid (∀ j, j < k → ¬ (((atG s.grants j).role = r ∧ (atG s.grants j).table = t) ∧ andI (atG s.grants j).bits x = x)) ∧ At wr w.heap.size 36 #[.int .i64 s.ver, .slice s.tA s.tn s.tcap, .slice s.gA s.gn s.gcap] ∧ Below w.heap.size w wr) (fun iv _ => s.gn - (intOf iv).toNat)
      case atStart => exact ⟨0, by omega, rfl, show ∀ _, _ from fun j h => by omega, aS1, hb1⟩
      case round =>
        obtain ⟨k, hk, rfl, H1, aSr, hbr⟩ := hrel
        have hgl := hs.grants.1
        by_cases hlt : k < s.gn
        · obtain ⟨gb, goff, hgA, hgbl, hcell⟩ := hs.grants.2.2 (by omega)
          obtain ⟨d0, d1, d2⟩ := (hcell k hlt).keep fun i => hbr.cell (p := ⟨gb, i, none⟩) hgbl
          have KH : Hid ((atG s.grants k).role = r → (atG s.grants k).table = t → andI (atG s.grants k).bits x = x → RMayE s r t x (.returned (.bool true))) := by
            show _ → _ → _ → _
            exact fun h1 h2 h3 => HHit.out ⟨k, by omega, ⟨h1, h2⟩, h3⟩
          have KN : Hid (¬ (((atG s.grants k).role = r ∧ (atG s.grants k).table = t) ∧ andI (atG s.grants k).bits x = x) → Hid (∀ j, j < k + 1 → ¬ (((atG s.grants j).role = r ∧ (atG s.grants j).table = t) ∧ andI (atG s.grants j).bits x = x))) := by
            show _ → _
            intro h
            show ∀ _, _
            intro j hj
            by_cases e : j = k
            · rw [e]; exact h
            · exact H1.out j (by omega)
          rw [hgA]
          clear H1 hcell HHit HEnd hW hF
          obtain ⟨g, hgg⟩ : ∃ g, g = s.grants.getD k default := ⟨_, rfl⟩
          rw [show atG s.grants k = s.grants.getD k default from rfl] at KH KN
          rw [← hgg] at KH KN d0 d1 d2
          have hgA2 := Lib.hid hgA
          clear hgg hgA
          obtain ⟨ro, tb, bi⟩ := g
          unfold andI at KH KN
          simp only at d0 d1 d2
          have hg0 := below_box wr (.cells #[.int .i64 ro, .string ⟨tb.toArray⟩, .int .i64 bi] 24)
          have hb3 := below_in hbr hg0
          have aS3 := aSr.below hg0 aSr.lt
          clear hg0
          by_cases e1 : ro = r
          · subst e1
            by_cases e2 : tb = t
            · subst e2
              by_cases e3 : Go.bits BinOp.and IntKind.i64 bi x = x
              · have HB := Lib.hid (KH.out rfl rfl e3)
                have e3' : (Go.bits BinOp.and IntKind.i64 bi x == x) = true := by simpa using e3
                clear KH KN e3
                go_wp2_with fail
                go_ret
                exact ⟨HB.out, hb3⟩
              · have HB := KN.out (fun h => e3 h.2)
                have e3' : (Go.bits BinOp.and IntKind.i64 bi x == x) = false := by simpa using e3
                clear KH KN e3
                go_wp2_with fail
                exact ⟨⟨k + 1, by omega, by go_num, HB, by rw [← hgA2.out]; exact aS3, hb3⟩, by simp [intOf]; omega⟩
            · have HB := KN.out (fun h => e2 h.1.2)
              have e2' : (tb == t) = false := by simp [e2]
              clear KH KN
              go_wp2_with fail
              exact ⟨⟨k + 1, by omega, by go_num, HB, by rw [← hgA2.out]; exact aS3, hb3⟩, by simp [intOf]; omega⟩
          · have HB := KN.out (fun h => e1 h.1.1)
            have e1' : (ro == r) = false := by simp [e1]
            clear KH KN
            go_wp2_with fail
            exact ⟨⟨k + 1, by omega, by go_num, HB, by rw [← hgA2.out]; exact aS3, hb3⟩, by simp [intOf]; omega⟩
        · obtain rfl : s.gn = k := by omega
          have HT := Lib.hid (HEnd.out (fun ⟨j, hj, hm, hx⟩ => H1.out j (by omega) ⟨hm, hx⟩))
          obtain ⟨c0, c1, c2⟩ := aSr.tri0
          clear H1 HHit HEnd
          go_wp2_with fail
          refine (hW _ hbr).mono ?_
          rintro e w4 ⟨rfl, b4⟩
          have hb4 := below_in hbr b4
          go_wp2_with fail
          go_ret
          exact ⟨HT.out, hb4⟩
    · have HE := Lib.hid (HM.out false ⟨fun h => (by cases h), fun h => absurd h.2.1 hr7⟩)
      clear hW
      by_cases h0 : 0 ≤ r
      · have h7 : ¬ r ≤ 7 := fun h => hr7 ⟨h0, h⟩
        clear hr7
        go_enter Try.func23, Try.ntmps23
        go_wp2_with fail
        refine (hF _ b0).mono ?_
        rintro e w1 ⟨rfl, b1⟩
        have hb1 := below_in b0 b1
        go_wp2_with fail
        go_ret
        exact ⟨HE.out, hb1⟩
      · clear hr7
        go_enter Try.func23, Try.ntmps23
        go_wp2_with fail
        refine (hF _ b0).mono ?_
        rintro e w1 ⟨rfl, b1⟩
        have hb1 := below_in b0 b1
        go_wp2_with fail
        go_ret
        exact ⟨HE.out, hb1⟩
end Go.Proofs.Yteehccklnidofaa
