/- The walks of May, both sides. -/
import Derived.Test.YteehccklnidofaaQGrE
namespace Go.Proofs.Yteehccklnidofaa
open Go.RowKit

theorem place_none {gs : List Gr} {r : Int} {t : List UInt8} {i : Nat} (hp : PlaceG gs r t i false) (hs : SortedG gs) : ∀ j, j < gs.length → ¬ ((atG gs j).role = r ∧ (atG gs j).table = t) := fun j hj hm => by
  rcases Nat.lt_trichotomy j i with h | h | h
  · have hl := hp.low (by omega)
    by_cases e : j = i - 1
    · rw [← e, hm.1, hm.2, ltK_irr] at hl; cases hl
    · have h2 := hs.2.2 (i - 1) (by have := hp.le; omega) j (by omega)
      unfold ltG at h2
      have h3 := ltK_trans h2 hl
      rw [hm.1, hm.2, ltK_irr] at h3; cases h3
  · subst h
    exact hp.no rfl hj hm
  · have h2 := hs.2.2 j hj i h
    unfold ltG at h2
    rw [hm.1, hm.2, hp.high (by omega)] at h2; cases h2
theorem place_one {gs : List Gr} (hs : SortedG gs) {i j : Nat} (hi : i < gs.length) (hj : j < gs.length) (h1 : (atG gs i).role = (atG gs j).role) (h2 : (atG gs i).table = (atG gs j).table) : i = j := by
  rcases Nat.lt_trichotomy i j with h | h | h
  · have h3 := hs.2.2 j hj i h
    unfold ltG at h3
    rw [h1, h2, ltK_irr] at h3; cases h3
  · exact h
  · have h3 := hs.2.2 i hi j h
    unfold ltG at h3
    rw [h1, h2, ltK_irr] at h3; cases h3

def andI (a x : Int) : Int := Go.bits BinOp.and IntKind.i64 a x
def hasG (gs : List Gr) (r : Int) (t : List UInt8) (x : Int) : Prop := ∃ j, j < gs.length ∧ ((atG gs j).role = r ∧ (atG gs j).table = t) ∧ andI (atG gs j).bits x = x
def MayP (s : Sc) (r : Int) (t : List UInt8) (x : Int) : Prop := tabAt s t ≠ none ∧ (0 ≤ r ∧ r ≤ 7) ∧ (ownsS s r t = true ∨ hasG s.grants r t x)
def MayE (s : Sc) (r : Int) (t : List UInt8) (x : Int) (e : Ending) : Prop := ∃ B : Bool, e = .returned (.bool B) ∧ (SortedG s.grants → (B = true ↔ MayP s r t x))
theorem owns_may {s : Sc} {r : Int} {t : List UInt8} (h : ownsS s r t = true) (x : Int) : MayP s r t x := by
  refine ⟨fun e => ?_, ?_, .inl h⟩
  · unfold ownsS at h; rw [e] at h; cases h
  · unfold ownsS at h
    cases hf : tabAt s t with
    | none => rw [hf] at h; cases h
    | some j =>
      rw [hf] at h
      simp only [Bool.and_eq_true, decide_eq_true_eq] at h
      exact h.1
theorem has_at {gs : List Gr} {r : Int} {t : List UInt8} {i : Nat} (hs : SortedG gs) (hi : i < gs.length) (h1 : (atG gs i).role = r) (h2 : (atG gs i).table = t) (x : Int) : hasG gs r t x ↔ andI (atG gs i).bits x = x :=
  ⟨fun ⟨j, hj, ⟨e1, e2⟩, h⟩ => by rw [place_one hs hi hj (h1.trans e1.symm) (h2.trans e2.symm)]; exact h, fun h => ⟨i, hi, ⟨h1, h2⟩, h⟩⟩

set_option maxRecDepth 100000 in
set_option maxHeartbeats 1600000 in
theorem gmay_any (s : Sc) (r : Int) (t : List UInt8) (x : Int) (w : World) (hs : InS w s) :
    Calls Try.prog 22 #[s.val, .int .i64 r, .string ⟨t.toArray⟩, .int .i64 x] w fun e w' => MayE s r t x e ∧ Below w.heap.size w w' := by
  have HM : Hid (∀ B : Bool, (SortedG s.grants → (B = true ↔ MayP s r t x)) → MayE s r t x (.returned (.bool B))) := by
    show ∀ _, _
    exact fun B h => ⟨B, rfl, h⟩
  have b0 := below_box w (.cells #[.int .i64 s.ver, .slice s.tA s.tn s.tcap, .slice s.gA s.gn s.gcap] 36)
  have hW := fun w' (b : Below w.heap.size w w') => gowns_any s r t w' (hs.below b)
  have hO := fun w' (b : Below w.heap.size w w') => ownerOf_any s t w' (hs.below b)
  have hF := fun w' (b : Below w.heap.size w w') => gfind_any s.gA s.gn s.gcap s.grants r t w' (hs.grants.below b) hs.gmax
  have aS := At.fresh w 36 #[.int .i64 s.ver, .slice s.tA s.tn s.tcap, .slice s.gA s.gn s.gcap]
  unfold OwnerE at hO
  unfold Sc.val at hO hW ⊢
  cases hw : ownsS s r t with
  | true =>
    have HE := Lib.hid (HM.out true (fun _ => ⟨fun _ => owns_may hw x, fun _ => rfl⟩))
    rw [hw] at hW
    go_enter Try.func22, Try.ntmps22
    go_wp2_with fail
    refine (hW _ b0).mono ?_
    rintro e w1 ⟨rfl, b1⟩
    have hb1 := below_in b0 b1
    go_wp2_with fail
    go_ret
    exact ⟨HE.out, hb1⟩
  | false =>
    rw [hw] at hW
    have hno : ∀ {P : Prop}, (false = true ∨ P ↔ P) := fun {P} => by simp
    cases hf : tabAt s t with
    | none =>
      have HE := Lib.hid (HM.out false (fun _ => ⟨fun h => (by cases h), fun h => absurd hf h.1⟩))
      rw [hf] at hO
      simp only at hO
      go_enter Try.func22, Try.ntmps22
      go_wp2_with fail
      refine (hW _ b0).mono ?_
      rintro e w1 ⟨rfl, b1⟩
      have hb1 := below_in b0 b1
      obtain ⟨c0, c1, c2⟩ := (aS.below b1 aS.lt).tri0
      go_wp2_with fail
      refine (hO _ hb1).mono ?_
      rintro e w2 ⟨rfl, b2⟩
      have hb2 := below_in hb1 b2
      go_wp2_with fail
      go_ret
      exact ⟨HE.out, hb2⟩
    | some j =>
      rw [hf] at hO
      simp only at hO
      generalize (s.tab j).owner = o at hO
      by_cases hr7 : 0 ≤ r ∧ r ≤ 7
      · have HL : Hid (decide (0 ≤ r ∧ r ≤ 7) = true) := decide_eq_true hr7
        have HP : Hid (∀ P : Prop, (SortedG s.grants → (P ↔ hasG s.grants r t x)) → SortedG s.grants → (P ↔ MayP s r t x)) := by
          show ∀ _, _
          exact fun P h hs' => ⟨fun p => ⟨fun e => (by rw [hf] at e; cases e), hr7, .inr ((h hs').1 p)⟩, fun m => (h hs').2 (m.2.2.resolve_left (by rw [hw]; simp))⟩
        go_enter Try.func22, Try.ntmps22
        go_wp2_with fail
        refine (hW _ b0).mono ?_
        rintro e w1 ⟨rfl, b1⟩
        have hb1 := below_in b0 b1
        obtain ⟨c0, c1, c2⟩ := (aS.below b1 aS.lt).tri0
        go_wp2_with fail
        refine (hO _ hb1).mono ?_
        rintro e w2 ⟨rfl, b2⟩
        have hb2 := below_in hb1 b2
        have aS2 := (aS.below b1 aS.lt).below b2 (aS.below b1 aS.lt).lt
        clear c0 c1 c2
        obtain ⟨c0, c1, c2⟩ := aS2.tri0
        go_wp2_with (go_at_call 19; refine (role_any _ _).mono ?_; rintro e w' ⟨rfl, rfl⟩; rw [HL.out])
        refine (hF _ hb2).mono ?_
        rintro e w3 ⟨⟨i, B, rfl, hp⟩, b3⟩
        have hb3 := below_in hb2 b3
        obtain ⟨-, -, d2⟩ := (aS2.below b3 aS2.lt).tri0
        clear c0 c1 c2
        cases B with
        | true =>
          have hin := (hp.yes rfl).1
          have hgl := hs.grants.1
          obtain ⟨gb, goff, hgA, hgbl, hcell⟩ := hs.grants.2.2 (by omega)
          obtain ⟨g0, g1, g2⟩ := (hcell i (by omega)).keep fun i => hb3.cell (p := ⟨gb, i, none⟩) hgbl
          rw [hgA] at d2
          have hig : (i : Int) < (s.gn : Int) := by omega
          have HE := Lib.hid (HM.out (andI (s.grants.getD i default).bits x == x) (HP.out _ (fun hs' => by rw [has_at hs' hin (hp.yes rfl).2.1 (hp.yes rfl).2.2 x]; simp)))
          generalize s.grants.getD i default = g at HE g0 g1 g2
          clear hcell hp hin
          go_wp2_with fail
          go_ret
          exact ⟨HE.out, hb3⟩
        | false =>
          have HE := Lib.hid (HM.out false (HP.out _ (fun hs' => ⟨fun h => (by cases h), fun ⟨j', hj', hm, _⟩ => absurd hm (place_none hp hs' j' hj')⟩)))
          go_wp2_with fail
          go_ret
          exact ⟨HE.out, hb3⟩
      · have HL : Hid (decide (0 ≤ r ∧ r ≤ 7) = false) := decide_eq_false hr7
        have HE := Lib.hid (HM.out false (fun _ => ⟨fun h => (by cases h), fun h => absurd h.2.1 hr7⟩))
        go_enter Try.func22, Try.ntmps22
        go_wp2_with fail
        refine (hW _ b0).mono ?_
        rintro e w1 ⟨rfl, b1⟩
        have hb1 := below_in b0 b1
        obtain ⟨c0, c1, c2⟩ := (aS.below b1 aS.lt).tri0
        go_wp2_with fail
        refine (hO _ hb1).mono ?_
        rintro e w2 ⟨rfl, b2⟩
        have hb2 := below_in hb1 b2
        go_wp2_with (go_at_call 19; refine (role_any _ _).mono ?_; rintro e w' ⟨rfl, rfl⟩; rw [HL.out])
        go_ret
        exact ⟨HE.out, hb2⟩
end Go.Proofs.Yteehccklnidofaa
