/- The walks of the reference's Owns and May. -/
/- The walk of the laws' function 'alive' (layer 10). -/
/- slices.Insert at grants: laws of rows; the clone. -/
import Derived.Test.YtnhalfdddcjicaaGreatQJat
import Derived.Test.YtnhalfdddcjicaaGreatQJam
import Derived.Laws.IdiomCopy
import Derived.Lib.Overlaps
import Derived.Lib.AppendZerosOnto
import Derived.Maps.AppendAt
import Derived.Lib.SliceRun
namespace Go.Proofs.YtnhalfdddcjicaaGreat
open Go.RowKit

theorem firstI_of {s : Sc} {t : List UInt8} : firstI (fun j => (s.tab j).name) t s.tn = match tabAt s t with | some j => (j : Int) | none => -1 := rfl

set_option maxRecDepth 100000 in
set_option maxHeartbeats 1600000 in
theorem rowns_any (s : Sc) (r : Int) (t : List UInt8) (w : World) (hs : InS w s) :
    Calls Tryz.prog 53 #[s.val, .int .i64 r, .string ⟨t.toArray⟩] w fun e w' => e = .returned (.bool (ownsS s r t)) ∧ Below w.heap.size w w' := by
  have b0 := below_box w (.cells #[.int .i64 s.ver, .slice s.tA s.tn s.tcap, .slice s.gA s.gn s.gcap] 25)
  have aS := At.fresh w 25 #[.int .i64 s.ver, .slice s.tA s.tn s.tcap, .slice s.gA s.gn s.gcap]
  have hF := fun w' (b : Below w.heap.size w w') => refFind_any s t w' (hs.below b)
  rw [firstI_of] at hF
  obtain ⟨R, hR⟩ : ∃ R, ownsS s r t = R := ⟨_, rfl⟩
  rw [hR]
  unfold ownsS at hR
  unfold Sc.val at hF ⊢
  cases hf : tabAt s t with
  | none =>
    rw [hf] at hR hF
    simp only at hR hF
    have HR : Hid (R = false) := hR.symm
    clear hR
    go_enter Tryz.func53, Tryz.ntmps53
    go_wp2_with fail
    refine (hF _ b0).mono ?_
    rintro e w1 ⟨rfl, b1⟩
    have hb1 := below_in b0 b1
    obtain ⟨c0, c1, c2⟩ := (aS.below b1 aS.lt).tri0
    go_wp2_with fail
    go_ret
    exact ⟨by rw [HR.out]; first | rfl | (show Ending.returned (Value.bool _) = _; congr 2; simp; omega), hb1⟩
  | some j =>
    rw [hf] at hR hF
    simp only at hR hF
    have hj : j < s.tn := (firstAt_some hf).1
    obtain ⟨b, off, htA, hbl, hcell⟩ := hs.tabs (by omega)
    have hcl := (hcell j hj).1
    generalize s.tab j = T at hcl hR
    have hjI : (j : Int) < (s.tn : Int) := by omega
    have hcl1 := fun w1 (b1 : Below w.heap.size w w1) => hcl.keep fun i => b1.cell (p := ⟨b, i, none⟩) hbl
    clear hcl hcell
    rw [htA] at hF aS b0
    rw [htA]
    by_cases h0 : 0 ≤ r
    · by_cases h7 : r ≤ 7
      · rw [decide_eq_true (show 0 ≤ r ∧ r ≤ 7 from ⟨h0, h7⟩)] at hR
        by_cases hr0 : r = 0
        · subst hr0
          have HR : Hid (R = true) := by show R = true; rw [← hR]; rfl
          clear hR
          go_enter Tryz.func53, Tryz.ntmps53
          go_wp2_with fail
          refine (hF _ b0).mono ?_
          rintro e w1 ⟨rfl, b1⟩
          have hb1 := below_in b0 b1
          obtain ⟨c0, c1, c2⟩ := (aS.below b1 aS.lt).tri0
          obtain ⟨t0, t1, t2, t3⟩ := hcl1 _ hb1
          go_wp2_with fail
          go_ret
          exact ⟨by rw [HR.out]; first | rfl | (show Ending.returned (Value.bool _) = _; congr 2; simp; omega), hb1⟩
        · have hr0' : (r == 0) = false := by simpa using hr0
          by_cases hro : T.owner = r
          · have HR : Hid (R = true) := by show R = true; rw [← hR, decide_eq_true hro.symm]; simp
            clear hR
            have hro' : (T.owner == r) = true := by simpa using hro
            go_enter Tryz.func53, Tryz.ntmps53
            go_wp2_with fail
            refine (hF _ b0).mono ?_
            rintro e w1 ⟨rfl, b1⟩
            have hb1 := below_in b0 b1
            obtain ⟨c0, c1, c2⟩ := (aS.below b1 aS.lt).tri0
            obtain ⟨t0, t1, t2, t3⟩ := hcl1 _ hb1
            rw [hro] at t1
            clear hro hro'
            go_wp2_with fail
            go_ret
            exact ⟨by rw [HR.out]; first | rfl | (show Ending.returned (Value.bool _) = _; congr 2; simp; omega), hb1⟩
          · have HR : Hid (R = false) := by show R = false; rw [← hR, decide_eq_false hr0, decide_eq_false (show ¬ r = T.owner from fun e => hro e.symm)]; rfl
            clear hR
            have hro' : (T.owner == r) = false := by simpa using hro
            go_enter Tryz.func53, Tryz.ntmps53
            go_wp2_with fail
            refine (hF _ b0).mono ?_
            rintro e w1 ⟨rfl, b1⟩
            have hb1 := below_in b0 b1
            obtain ⟨c0, c1, c2⟩ := (aS.below b1 aS.lt).tri0
            obtain ⟨t0, t1, t2, t3⟩ := hcl1 _ hb1
            go_wp2_with fail
            go_ret
            exact ⟨by rw [HR.out]; first | rfl | (show Ending.returned (Value.bool _) = _; congr 2; simp; omega), hb1⟩
      · have HR : Hid (R = false) := by show R = false; rw [← hR, decide_eq_false (by omega)]; rfl
        clear hR
        go_enter Tryz.func53, Tryz.ntmps53
        go_wp2_with fail
        refine (hF _ b0).mono ?_
        rintro e w1 ⟨rfl, b1⟩
        have hb1 := below_in b0 b1
        obtain ⟨c0, c1, c2⟩ := (aS.below b1 aS.lt).tri0
        obtain ⟨t0, t1, t2, t3⟩ := hcl1 _ hb1
        go_wp2_with fail
        go_ret
        exact ⟨by rw [HR.out]; first | rfl | (show Ending.returned (Value.bool _) = _; congr 2; simp; omega), hb1⟩
    · have HR : Hid (R = false) := by show R = false; rw [← hR, decide_eq_false (by omega)]; rfl
      clear hR
      go_enter Tryz.func53, Tryz.ntmps53
      go_wp2_with fail
      refine (hF _ b0).mono ?_
      rintro e w1 ⟨rfl, b1⟩
      have hb1 := below_in b0 b1
      obtain ⟨c0, c1, c2⟩ := (aS.below b1 aS.lt).tri0
      obtain ⟨t0, t1, t2, t3⟩ := hcl1 _ hb1
      go_wp2_with fail
      go_ret
      exact ⟨by rw [HR.out]; first | rfl | (show Ending.returned (Value.bool _) = _; congr 2; simp; omega), hb1⟩

def RMayE (s : Sc) (r : Int) (t : List UInt8) (x : Int) (e : Ending) : Prop := ∃ B : Bool, e = .returned (.bool B) ∧ (B = true ↔ MayP s r t x)

set_option maxRecDepth 100000 in
set_option maxHeartbeats 1600000 in
theorem rmay_any (s : Sc) (r : Int) (t : List UInt8) (x : Int) (w : World) (hs : InS w s) :
    Calls Tryz.prog 85 #[s.val, .int .i64 r, .string ⟨t.toArray⟩, .int .i64 x] w fun e w' => RMayE s r t x e ∧ Below w.heap.size w w' := by
  have HM : Hid (∀ B : Bool, (B = true ↔ MayP s r t x) → RMayE s r t x (.returned (.bool B))) := by
    show ∀ _, _
    exact fun B h => ⟨B, rfl, h⟩
  have b0 := below_box w (.cells #[.int .i64 s.ver, .slice s.tA s.tn s.tcap, .slice s.gA s.gn s.gcap] 25)
  have aS := At.fresh w 25 #[.int .i64 s.ver, .slice s.tA s.tn s.tcap, .slice s.gA s.gn s.gcap]
  have hF := fun w' (b : Below w.heap.size w w') => refFind_any s t w' (hs.below b)
  have hW := fun w' (b : Below w.heap.size w w') => rowns_any s r t w' (hs.below b)
  rw [firstI_of] at hF
  have hgm := hs.gmax
  unfold maxLen at hgm
  unfold Sc.val at hF hW ⊢
  cases hf : tabAt s t with
  | none =>
    have HE := Lib.hid (HM.out false ⟨fun h => (by cases h), fun h => absurd hf h.1⟩)
    rw [hf] at hF
    simp only at hF
    clear hW
    go_enter Tryz.func85, Tryz.ntmps85
    go_wp2_with fail
    refine (hF _ b0).mono ?_
    rintro e w1 ⟨rfl, b1⟩
    have hb1 := below_in b0 b1
    go_wp2_with fail
    go_ret
    exact ⟨HE.out, hb1⟩
  | some j =>
    rw [hf] at hF
    simp only at hF
    have hj0 : ¬ ((j : Int) < 0) := by omega
    by_cases hr7 : 0 ≤ r ∧ r ≤ 7
    · obtain ⟨h0, h7⟩ := hr7
      have hne : tabAt s t ≠ none := by rw [hf]; intro e; cases e
      have HHit : Hid (hasG s.grants r t x → RMayE s r t x (.returned (.bool true))) := by
        show _ → _
        exact fun h => HM.out true ⟨fun _ => ⟨hne, ⟨h0, h7⟩, .inr h⟩, fun _ => rfl⟩
      have HEnd : Hid (¬ hasG s.grants r t x → RMayE s r t x (.returned (.bool (ownsS s r t)))) := by
        show _ → _
        exact fun h => HM.out _ ⟨fun o => ⟨hne, ⟨h0, h7⟩, .inl o⟩, fun m => m.2.2.resolve_right h⟩
      clear hne HM
      generalize ownsS s r t = O at *
      go_enter Tryz.func85, Tryz.ntmps85
      go_wp2_with fail
      refine (hF _ b0).mono ?_
      rintro e w1 ⟨rfl, b1⟩
      have hb1 := below_in b0 b1
      have aS1 := aS.below b1 aS.lt
      obtain ⟨c0, c1, c2⟩ := aS1.tri0
      go_wp2_with fail
      go_loopw [26] (fun iv wr => ∃ (k : Nat), k ≤ s.gn ∧ iv = .int .i64 k ∧ Hid (∀ j, j < k → ¬ (((atG s.grants j).role = r ∧ (atG s.grants j).table = t) ∧ andI (atG s.grants j).bits x = x)) ∧ At wr w.heap.size 25 #[.int .i64 s.ver, .slice s.tA s.tn s.tcap, .slice s.gA s.gn s.gcap] ∧ Below w.heap.size w wr) (fun iv _ => s.gn - (intOf iv).toNat)
      case atStart => exact ⟨0, by omega, rfl, show ∀ _, _ from fun j h => by omega, aS1, hb1⟩
      case round =>
        obtain ⟨k, hk, rfl, H1, aSr, hbr⟩ := hrel
        have hgl := hs.grants.1
        by_cases hlt : k < s.gn
        · obtain ⟨gb, goff, hgA, hgbl, hcell⟩ := hs.grants.2.2 (by omega)
          obtain ⟨d0, d1, d2⟩ := (hcell k hlt).keep fun i => hbr.cell (p := ⟨gb, i, none⟩) hgbl
          have KH : Hid ((atG s.grants k).role = r → (atG s.grants k).table = t → andI (atG s.grants k).bits x = x → RMayE s r t x (.returned (.bool true))) := by
            show _ → _ → _ → _
            exact fun h1 h2 h3 => HHit.out ⟨k, by omega, ⟨h1, h2⟩, h3⟩
          have KN : Hid (¬ (((atG s.grants k).role = r ∧ (atG s.grants k).table = t) ∧ andI (atG s.grants k).bits x = x) → Hid (∀ j, j < k + 1 → ¬ (((atG s.grants j).role = r ∧ (atG s.grants j).table = t) ∧ andI (atG s.grants j).bits x = x))) := by
            show _ → _
            intro h
            show ∀ _, _
            intro j hj
            by_cases e : j = k
            · rw [e]; exact h
            · exact H1.out j (by omega)
          rw [hgA]
          clear H1 hcell HHit HEnd hW hF
          obtain ⟨g, hgg⟩ : ∃ g, g = s.grants.getD k default := ⟨_, rfl⟩
          rw [show atG s.grants k = s.grants.getD k default from rfl] at KH KN
          rw [← hgg] at KH KN d0 d1 d2
          have hgA2 := Lib.hid hgA
          clear hgg hgA
          obtain ⟨ro, tb, bi⟩ := g
          unfold andI at KH KN
          simp only at d0 d1 d2
          have hg0 := below_box wr (.cells #[.int .i64 ro, .string ⟨tb.toArray⟩, .int .i64 bi] 50)
          have hb3 := below_in hbr hg0
          have aS3 := aSr.below hg0 aSr.lt
          clear hg0
          by_cases e1 : ro = r
          · subst e1
            by_cases e2 : tb = t
            · subst e2
              by_cases e3 : Go.bits BinOp.and IntKind.i64 bi x = x
              · have HB := Lib.hid (KH.out rfl rfl e3)
                have e3' : (Go.bits BinOp.and IntKind.i64 bi x == x) = true := by simpa using e3
                clear KH KN e3
                go_wp2_with fail
                go_ret
                exact ⟨HB.out, hb3⟩
              · have HB := KN.out (fun h => e3 h.2)
                have e3' : (Go.bits BinOp.and IntKind.i64 bi x == x) = false := by simpa using e3
                clear KH KN e3
                go_wp2_with fail
                exact ⟨⟨k + 1, by omega, by go_num, HB, by rw [← hgA2.out]; exact aS3, hb3⟩, by simp [intOf]; omega⟩
            · have HB := KN.out (fun h => e2 h.1.2)
              have e2' : (tb == t) = false := by simp [e2]
              clear KH KN
              go_wp2_with fail
              exact ⟨⟨k + 1, by omega, by go_num, HB, by rw [← hgA2.out]; exact aS3, hb3⟩, by simp [intOf]; omega⟩
          · have HB := KN.out (fun h => e1 h.1.1)
            have e1' : (ro == r) = false := by simp [e1]
            clear KH KN
            go_wp2_with fail
            exact ⟨⟨k + 1, by omega, by go_num, HB, by rw [← hgA2.out]; exact aS3, hb3⟩, by simp [intOf]; omega⟩
        · obtain rfl : s.gn = k := by omega
          have HT := Lib.hid (HEnd.out (fun ⟨j, hj, hm, hx⟩ => H1.out j (by omega) ⟨hm, hx⟩))
          obtain ⟨c0, c1, c2⟩ := aSr.tri0
          clear H1 HHit HEnd
          go_wp2_with fail
          refine (hW _ hbr).mono ?_
          rintro e w4 ⟨rfl, b4⟩
          have hb4 := below_in hbr b4
          go_wp2_with fail
          go_ret
          exact ⟨HT.out, hb4⟩
    · have HE := Lib.hid (HM.out false ⟨fun h => (by cases h), fun h => absurd h.2.1 hr7⟩)
      clear hW
      by_cases h0 : 0 ≤ r
      · have h7 : ¬ r ≤ 7 := fun h => hr7 ⟨h0, h⟩
        clear hr7
        go_enter Tryz.func85, Tryz.ntmps85
        go_wp2_with fail
        refine (hF _ b0).mono ?_
        rintro e w1 ⟨rfl, b1⟩
        have hb1 := below_in b0 b1
        go_wp2_with fail
        go_ret
        exact ⟨HE.out, hb1⟩
      · clear hr7
        go_enter Tryz.func85, Tryz.ntmps85
        go_wp2_with fail
        refine (hF _ b0).mono ?_
        rintro e w1 ⟨rfl, b1⟩
        have hb1 := below_in b0 b1
        go_wp2_with fail
        go_ret
        exact ⟨HE.out, hb1⟩
end Go.Proofs.YtnhalfdddcjicaaGreat

namespace Go.Proofs.YtnhalfdddcjicaaGreat
open Go.RowKit

def aT : Tb := ⟨[97], 2, none, 0, 0, [], none, 0, 0, fun _ => .nil⟩
def aSc (g : Nat) : Sc := ⟨0, some ⟨g, 0, none⟩, 1, 1, fun _ => aT, none, 0, 0, []⟩
theorem in_aT (w : World) : InT w aT := ⟨by unfold I64; decide, by unfold maxLen; decide, by unfold maxLen; decide, by unfold maxLen; decide, ⟨rfl, by simp [aT], fun h => absurd h (by decide)⟩, fun h => absurd h (by decide)⟩
theorem four4 {w : World} {g : Nat} {t : TypeId} {x y z p : Value} (h : At w g t #[x, y, z, p]) : w.cell? ⟨g, 0, none⟩ = some x ∧ w.cell? ⟨g, 1, none⟩ = some y ∧ w.cell? ⟨g, 2, none⟩ = some z ∧ w.cell? ⟨g, 3, none⟩ = some p := ⟨h.cell 0, h.cell 1, h.cell 2, h.cell 3⟩
theorem in_aSc {w : World} {g : Nat} (h : At w g 32 #[.string ⟨#[97]⟩, .int .i64 2, .slice none 0 0, .slice none 0 0]) : InS w (aSc g) := by
  refine ⟨by show I64 0; unfold I64; decide, by show 1 ≤ maxLen; unfold maxLen; decide, by show 0 ≤ maxLen; unfold maxLen; decide, fun _ => ⟨g, 0, rfl, h.lt, fun j hj => ?_⟩, ⟨rfl, by simp [aSc], fun h => absurd h (by show ¬ 0 < 0; decide)⟩⟩
  obtain rfl : j = 0 := by have : j < 1 := hj; omega
  obtain ⟨c0, c1, c2, c3⟩ := four4 h
  exact ⟨⟨c0, c1, c2, c3⟩, in_aT w⟩
theorem sorted_nil : SortedG [] := ⟨by decide, fun j hj => absurd hj (by simp), fun j hj => absurd hj (by simp)⟩
theorem has_nil (r : Int) (t : List UInt8) (x : Int) : ¬ hasG [] r t x := fun ⟨j, hj, _⟩ => absurd hj (by simp)
theorem may_aSc {g : Nat} {r : Int} {t : List UInt8} {x : Int} {e : Ending} (h : MayE (aSc g) r t x e) : e = .returned (.bool (ownsS (aSc g) r t)) := by
  obtain ⟨B, rfl, hB⟩ := h
  have h1 : SortedG (aSc g).grants := sorted_nil
  have h2 := hB h1
  have h3 : B = true ↔ ownsS (aSc g) r t = true := h2.trans ⟨fun m => m.2.2.resolve_right (has_nil r t x), fun o => owns_may o x⟩
  rw [Bool.eq_iff_iff.2 h3]
theorem o1 (g : Nat) : ownsS (aSc g) 0 [97] = true := rfl
theorem o2 (g : Nat) : ownsS (aSc g) 2 [97] = true := rfl
theorem o3 (g : Nat) : ownsS (aSc g) 1 [97] = false := rfl
theorem o4 (g : Nat) : ownsS (aSc g) 0 [98] = false := rfl

end Go.Proofs.YtnhalfdddcjicaaGreat

namespace Go.Proofs.YtnhalfdddcjicaaGreat
open Go.RowKit

/-- vs laid over l from o on. -/
def layL (o : Nat) (l vs : List Value) : List Value := l.take o ++ vs ++ l.drop (o + vs.length)
theorem layL_len {o : Nat} {l vs : List Value} (h : o + vs.length ≤ l.length) : (layL o l vs).length = l.length := by
  unfold layL
  simp only [List.length_append, List.length_take, List.length_drop]
  omega
theorem layL_cons (o : Nat) (l : List Value) (v : Value) (vs : List Value) (h : o + 1 + vs.length ≤ l.length) : layL (o + 1) (l.set o v) vs = layL o l (v :: vs) := by
  unfold layL
  have h1 : (l.set o v).take (o + 1) = l.take o ++ [v] := by
    rw [List.take_succ_eq_append_getElem (by simp; omega), List.take_set_of_le (Nat.le_refl _)]
    simp
  have h2 : (l.set o v).drop (o + 1 + vs.length) = l.drop (o + (v :: vs).length) := by
    rw [List.drop_set_of_lt (by omega), List.length_cons, show o + 1 + vs.length = o + (vs.length + 1) by omega]
  rw [h1, h2]
  simp
theorem At.sets {g : Nat} {t : TypeId} : ∀ (vs : List Value) (o : Nat) (l : List Value) (w : World), At w g t l.toArray → o + vs.length ≤ l.length → At (w.setCells g o vs) g t (layL o l vs).toArray
  | [], o, l, w, h, _ => by
    unfold layL
    simp only [List.append_nil, List.length_nil, Nat.add_zero, List.take_append_drop]
    exact h
  | v :: vs, o, l, w, h, hl => by
    rw [World.setCells]
    simp only [List.length_cons] at hl
    have h1 := At.put h o v
    rw [List.setIfInBounds_toArray] at h1
    have h2 := At.sets vs (o + 1) (l.set o v) _ h1 (by rw [List.length_set]; omega)
    rw [layL_cons o l v vs (by omega)] at h2
    exact h2
theorem below_sets {B : Nat} {w : World} {g : Nat} (hg : B ≤ g) : ∀ (vs : List Value) (o : Nat) (w' : World), Below B w w' → Below B w (w'.setCells g o vs)
  | [], _, _, h => h
  | v :: vs, o, w', h => by
    rw [World.setCells]
    exact below_sets hg vs (o + 1) _ (h.trans ⟨rfl, rfl, rfl, by simp [World.setCell], fun k hk => Below.heap_setCell _ _ _ _ (fun e => by simp at e; omega)⟩)
/-- copy, at elements of any size. -/
theorem run_copy_k {P : Program} (w : World) (dT sT ty elem : TypeId) (k : Nat) (b o dLen dCap : Nat) (a : Addr) (sLen sCap : Nat) (cs : List Value)
    (hu : P.underlying dT = some (.slice elem)) (hs : (P.info? elem).map (·.size) = some k) (hn : cs.length = Nat.min sLen dLen * k)
    (hsrc : ∀ j v, cs[j]? = some v → w.cell? (a.add j) = some v) (hc : ∀ j, j < cs.length → (w.cell? ⟨b, o + j, none⟩).isSome = true) (hf : ∀ j, j < cs.length → w.frozen? ⟨b, o + j, none⟩ = false) (h1 : ∀ v ∈ cs, v.oneCell' = true) :
    (Builtin.copy_ #[dT, sT] ty #[.slice (some ⟨b, o, none⟩) dLen dCap, .slice (some a) sLen sCap]).run P w = .ok (goInt (Nat.min sLen dLen)) (w.setCells b o cs) := by
  have hl := run_loadCells_list (P := P) w a cs hsrc
  have hst := run_storeCells_cells (P := P) b o cs 0 w (by simpa using hc) (by simpa using hf) h1
  cases hq : P.info? elem with
  | none => simp [hq] at hs
  | some i =>
    have hi : i.size = k := by simpa [hq] using hs
    simp [Builtin.copy_, run_underlying hu, Builtin.lenOf, Builtin.firstCells, sizeOf, typeInfo, hq, hi, ← hn, hl, hst]
/-- .. where both rows are known whole. -/
theorem run_copy_at {P : Program} (w : World) (dT sT ty elem : TypeId) (k : Nat) (b o dLen dCap : Nat) (c p sLen sCap : Nat) (t t' : TypeId) (l l' : List Value)
    (hu : P.underlying dT = some (.slice elem)) (hs : (P.info? elem).map (·.size) = some k) (hb : At w b t l.toArray) (hc : At w c t' l'.toArray)
    (hd : o + Nat.min sLen dLen * k ≤ l.length) (hp : p + Nat.min sLen dLen * k ≤ l'.length) (h1 : ∀ v ∈ (l'.drop p).take (Nat.min sLen dLen * k), v.oneCell' = true) :
    (Builtin.copy_ #[dT, sT] ty #[.slice (some ⟨b, o, none⟩) dLen dCap, .slice (some ⟨c, p, none⟩) sLen sCap]).run P w = .ok (goInt (Nat.min sLen dLen)) (w.setCells b o ((l'.drop p).take (Nat.min sLen dLen * k))) := by
  have hl : ((l'.drop p).take (Nat.min sLen dLen * k)).length = Nat.min sLen dLen * k := by rw [List.length_take, List.length_drop]; omega
  refine run_copy_k w dT sT ty elem k b o dLen dCap ⟨c, p, none⟩ sLen sCap _ hu hs hl (fun j v hj => ?_) (fun j hj => ?_) (fun j hj => ?_) h1
  · have e : (⟨c, p, none⟩ : Addr).add j = ⟨c, p + j, none⟩ := by unfold Addr.add; split <;> simp_all
    rw [e, At.cell hc (p + j)]
    rw [List.getElem?_take] at hj
    split at hj
    · rw [List.getElem?_drop] at hj
      simpa using hj
    · cases hj
  · rw [At.cell hb (o + j)]
    rw [hl] at hj
    simp
    omega
  · exact At.unfrozen hb (o + j)
theorem wp_append_at {P : Program} {ops : Array Oper} {rest : List Oper} {o : Oper} {a : Act} {Q : Exit → Act → World → Prop} {w : World} {base : Nat} {v : Value} {n : Nat} {xs : List Value} (hgd : o.guard = none) (sl x : Operand) (t : TypeId)
    (hop : o.op = .call { callee := .builtin .append, args := #[sl, x], argTypes := #[t, t] }) (e : TypeId) (size bytes : Nat) (z : Value) (ht : P.underlying t = some (.slice e))
    (hi : (P.info? e).map (fun i => (i.zero, i.size, i.bytes)) = some (some z, size, bytes)) (hzs : z.cells.size = size) (hsz : 0 < size) (h : w.ownsRow base e size v n xs) (ad : Addr) (m c : Nat) (news : List Value)
    (hsl : a.eval sl = v) (hx : a.eval x = .slice (some ad) m c) (hl : news.length = m * size) (hnews : ∀ j u, news[j]? = some u → w.cell? (ad.add j) = some u) (h1 : ∀ u ∈ news, u.oneCell' = true) (hn : n + m ≤ 1000000000) (hby : bytes ≤ 100) (hb : base ≤ w.heap.size)
    (hQ : ∀ v' w', w'.ownsRow base e size v' (n + m) (xs ++ news) → w.grownBy w' v.ownBlock → wpList P ops Q rest (a.put o.dst v') w') :
    wpList P ops Q (o :: rest) a w := by
  obtain ⟨i0, hi0, hz0, hz1, hz2⟩ := info_parts hi
  obtain ⟨v', w', hrun, h2, h3, _, _⟩ := run_append_own_at (P := P) w base t o.type e i0 z size bytes ht hi0 hz0 hz1 hz2 hzs hsz v n xs h ad m c news hl hnews h1 (by unfold maxLen; omega) (by have := Nat.mul_le_mul hn hby; omega) hb
  refine wpList_plain hgd fun K hK => ?_
  unfold Oper.wp execOp
  simp only [hop, resolve, invoke, builtin, Sem.run_bind, Sem.run_pure, Result.andThen_ok, List.map_toArray, List.map_cons, List.map_nil, hsl, hx, hrun]
  exact hK _ _ (hQ v' w' h2 h3)

theorem add_plain (b off i : Nat) : (⟨b, off, none⟩ : Addr).add i = ⟨b, off + i, none⟩ := by unfold Addr.add; split <;> simp_all
theorem rows_news3 {α : Type} (f : α → List Value) (d : α) (hf : ∀ a, (f a).length = 3) (l : List α) (w : World) (b off : Nat) (h : ∀ j, j < l.length → ∀ i v, (f (l.getD j d))[i]? = some v → w.cell? ⟨b, off + j * 3 + i, none⟩ = some v) :
    ∀ j u, (l.flatMap f)[j]? = some u → w.cell? ((⟨b, off, none⟩ : Addr).add j) = some u := fun j u hu => by
  have hlen : ∀ l : List α, (l.flatMap f).length = l.length * 3 := fun l => by
    induction l with
    | nil => rfl
    | cons a r ih => rw [List.flatMap_cons, List.length_append, ih, hf, List.length_cons]; omega
  have hj : j < l.length * 3 := by rw [← hlen]; exact (List.getElem?_eq_some_iff.1 hu).1
  have e : j = j / 3 * 3 + j % 3 := by omega
  have hu' := hu
  rw [e, flat_at f 3 d hf l (j / 3) (by omega) (j % 3) (by omega)] at hu'
  have h1 := h (j / 3) (by omega) (j % 3) u hu'
  have e2 : (⟨b, off, none⟩ : Addr).add j = ⟨b, off + j / 3 * 3 + j % 3, none⟩ := by
    rw [add_plain, Nat.add_assoc, ← e]
  rw [e2]
  exact h1
theorem flat_len3 {α : Type} (f : α → List Value) (hf : ∀ a, (f a).length = 3) : ∀ l : List α, (l.flatMap f).length = l.length * 3
  | [] => rfl
  | a :: r => by rw [List.flatMap_cons, List.length_append, flat_len3 f hf r, hf, List.length_cons]; omega
theorem one_cells {α : Type} (f : α → List Value) (l : List α) (h : ∀ a, ∀ u ∈ f a, u.oneCell' = true) : ∀ u ∈ l.flatMap f, u.oneCell' = true := fun u hu => by
  obtain ⟨a, _, ha⟩ := List.mem_flatMap.1 hu
  exact h a u ha

theorem info_grant : (Tryz.prog.info? 50).map (fun i => (i.zero, i.size, i.bytes)) = some (some (.agg #[.int .i64 0, .string ⟨#[]⟩, .int .i64 0]), 3, 32) := by kernel_rfl
set_option maxRecDepth 100000 in
set_option maxHeartbeats 800000 in
theorem cloneG_any (A : Option Addr) (n cap : Nat) (l : List Gr) (w : World) (hl : l.length = n) (hn : n ≤ 100000000)
    (hr : 0 < n → ∃ b off, A = some ⟨b, off, none⟩ ∧ ∀ j, j < n → ∀ i v, (Gr.cs (l.getD j default))[i]? = some v → w.cell? ⟨b, off + j * 3 + i, none⟩ = some v) :
    Calls Tryz.prog 40 #[.slice A n cap] w fun e w' => ∃ v, e = .returned v ∧ w'.ownsRow w.heap.size 50 3 v n (l.flatMap Gr.cs) ∧ Below w.heap.size w w' := by
  cases A with
  | none =>
    have h0 : n = 0 := by
      rcases Nat.eq_zero_or_pos n with h | h
      · exact h
      · obtain ⟨_, _, h1, _⟩ := hr h; cases h1
    subst h0
    obtain rfl : l = [] := List.eq_nil_of_length_eq_zero hl
    clear hr
    have hq := fun (w : World) => Lib.run_eql_slice_nil (P := Tryz.prog) w 23 50 none 0 cap 0 0 Tryz.underlying23
    go_enter Tryz.func40, Tryz.ntmps40
    go_wp2_with fail
    go_ret
    exact ⟨_, rfl, World.ownsRow_nil _ _ _ 3, Below.refl _ _⟩
  | some ad =>
    have hnews : ∀ j u, (l.flatMap Gr.cs)[j]? = some u → w.cell? (ad.add j) = some u := fun j u hu => by
      have hpos : 0 < n := by
        rcases Nat.eq_zero_or_pos n with h | h
        · obtain rfl : l = [] := List.eq_nil_of_length_eq_zero (by omega)
          simp at hu
        · exact h
      obtain ⟨b, off, e1, e2⟩ := hr hpos
      injection e1 with e1
      subst e1
      exact rows_news3 Gr.cs default (fun _ => rfl) l w b off (fun j hj i v hv => e2 j (by omega) i v hv) j u hu
    have hmade : (w.alloc (.cells #[] 50)).ownsRow w.heap.size 50 3 (.slice (some ⟨w.heap.size, 0, none⟩) 0 0) 0 [] := World.ownsRow_made w #[] 0 (Nat.le_refl _) (by unfold maxLen; omega) rfl
    have hb := below_box w (.cells #[] 50)
    have hnews' : ∀ j u, (l.flatMap Gr.cs)[j]? = some u → (w.alloc (.cells #[] 50)).cell? (ad.add j) = some u := fun j u hu => by
      have h1 := hnews j u hu
      exact (hb.cell (World.block_lt_of_cell? w _ h1)).trans h1
    clear hr hnews
    have hq := fun (w : World) => Lib.run_eql_slice_nil (P := Tryz.prog) w 23 50 (some ad) n cap 0 0 Tryz.underlying23
    go_enter Tryz.func40, Tryz.ntmps40
    go_wp2_with (at_builtin; refine wp_append_at rfl (.tmp 5) (.tmp 6) 23 rfl 50 3 32 _ Tryz.underlying23 info_grant rfl (by omega) hmade ad n cap (l.flatMap Gr.cs) rfl rfl (by rw [flat_len3 _ (fun _ => rfl), hl]) hnews' (one_cells _ _ (fun a u hu => by simp [Gr.cs] at hu; rcases hu with rfl | rfl | rfl <;> rfl)) (by omega) (by omega) hb.size ?_)
    intro v w2 ho hg
    have HO := Lib.hid ho
    clear ho
    go_wp2_with fail
    go_ret
    refine ⟨_, rfl, ?_, hb.grown hg hb.size (fun k hk => by simp [Value.ownBlock] at hk; omega)⟩
    exact HO.out
end Go.Proofs.YtnhalfdddcjicaaGreat
