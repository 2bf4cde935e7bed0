/- The walks of the reference: Sorted, Bits. -/
/- The walks of Owns and May, both sides. -/
/- The walks of May, both sides. -/
import Derived.Test.YtnhalfdddcjicaaGreatQGrC
namespace Go.Proofs.YtnhalfdddcjicaaGreat
open Go.RowKit
open Go.Op (bytesLess)

theorem sorted_pair {gs : List Gr} {k j : Nat} (hk : k < gs.length) (hj : j < k) (h : ltG (atG gs j) (atG gs k) = false) : ¬ SortedG gs := fun hs => by
  rw [hs.2.2 k hk j hj] at h; cases h

set_option maxRecDepth 100000 in
set_option maxHeartbeats 1600000 in
theorem rsorted_any (A : Option Addr) (n cap : Nat) (gs : List Gr) (w : World) (hr : RowG w A n gs) (hn : n ≤ maxLen) (hcap : n ≤ cap) :
    Calls Tryz.prog 9 #[.slice A n cap] w fun e w' => e = .returned (.bool (decide (SortedG gs))) ∧ Below w.heap.size w w' := by
  unfold maxLen at hn
  have hgl := hr.1
  obtain ⟨R, hR⟩ : ∃ R, decide (SortedG gs) = R := ⟨_, rfl⟩
  rw [hR]
  have HR := Lib.hid hR
  clear hR
  go_enter Tryz.func9, Tryz.ntmps9
  go_wp2_with fail
  go_loopw [9] (fun iv wr => ∃ (k : Nat), k ≤ n ∧ iv = .int .i64 k ∧ Hid (∀ j, j < k → goodG (atG gs j) = true) ∧ Hid (∀ j, j < k → ∀ i, i < j → ltG (atG gs i) (atG gs j) = true) ∧ Below w.heap.size w wr) (fun iv _ => n - (intOf iv).toNat)
  case atStart => exact ⟨0, by omega, rfl, show ∀ _, _ from fun j h => by omega, show ∀ _, _ from fun j h => by omega, Below.refl _ _⟩
  case round =>
    obtain ⟨k, hk, rfl, H1, H2, hbr⟩ := hrel
    by_cases hlt : k < n
    · obtain ⟨b, off, rfl, hbl, hcell⟩ := hr.2.2 (by omega)
      obtain ⟨c0, c1, c2⟩ := (hcell k hlt).keep fun i => hbr.cell (p := ⟨b, i, none⟩) hbl
      have hok := hr.2.1 _ (getD_in2 (l := gs) (k := k) (by omega))
      have hgood := fun w' => rgoodG_any (atG gs k) w' hok.table
      have K1 : Hid (goodG (atG gs k) = true → Hid (∀ j, j < k + 1 → goodG (atG gs j) = true)) := by
        show _ → _
        intro h
        show ∀ _, _
        intro j hj
        by_cases e : j = k
        · rw [e]; exact h
        · exact H1.out j (by omega)
      have K2 : Hid ((∀ i, i < k → ltG (atG gs i) (atG gs k) = true) → Hid (∀ j, j < k + 1 → ∀ i, i < j → ltG (atG gs i) (atG gs j) = true)) := by
        show _ → _
        intro h
        show ∀ _, _
        intro j hj i hi
        by_cases e : j = k
        · rw [e] at hi ⊢; exact h i hi
        · exact H2.out j (by omega) i hi
      have B1 := Lib.hid (sorted_bad (gs := gs) (k := k) (by omega))
      have B2 := Lib.hid (fun j hj => sorted_pair (gs := gs) (k := k) (j := j) (by omega) hj)
      have hkc : (k : Int) ≤ (cap : Int) := by omega
      clear H1 H2
      obtain ⟨g, hgg⟩ : ∃ g, g = gs.getD k default := ⟨_, rfl⟩
      rw [show atG gs k = gs.getD k default from rfl] at hgood K1 K2 B1 B2
      rw [← hgg] at hgood K1 K2 B1 B2 hok c0 c1 c2
      clear hgg
      obtain ⟨ro, tb, bi⟩ := g
      have hb0 := below_box wr (.cells #[.int .i64 ro, .string ⟨tb.toArray⟩, .int .i64 bi] 50)
      have hA0 := At.fresh wr 50 #[.int .i64 ro, .string ⟨tb.toArray⟩, .int .i64 bi]
      unfold Gr.val at hgood
      simp only at c0 c1 c2
      cases hg : goodG ⟨ro, tb, bi⟩ with
      | false =>
        have HF : Hid (R = false) := by show _ = _; rw [← HR.out, decide_eq_false (B1.out hg)]
        rw [hg] at hgood
        clear K1 K2 B1 B2 hcell hg
        go_wp2_with fail
        refine (hgood _).mono ?_
        rintro e w2 ⟨rfl, b2⟩
        have hb2 := below_in hbr (below_in hb0 b2)
        go_wp2_with fail
        go_ret
        exact ⟨by rw [HF.out]; rfl, hb2⟩
      | true =>
        have HK1 := K1.out hg
        rw [hg] at hgood
        clear K1 B1 hg
        go_wp2_with fail
        refine (hgood _).mono ?_
        rintro e w2 ⟨rfl, b2⟩
        have hb2 := below_in hbr (below_in hb0 b2)
        have hA2 := hA0.below b2 hA0.lt
        clear b2 hA0 hb0 hgood c0 c1 c2
        go_wp2_with fail
        have hbz : Below w2.heap.size w2 w2 := Below.refl _ _
        generalize hZ : wr.heap.size = Z at *
        go_loopw [21] (fun iv wx => ∃ (m : Nat), m ≤ k ∧ iv = .int .i64 m ∧ Hid (∀ j, j < m → ltG (atG gs j) ⟨ro, tb, bi⟩ = true) ∧ At wx Z 50 #[.int .i64 ro, .string ⟨tb.toArray⟩, .int .i64 bi] ∧ Below w.heap.size w wx) (fun iv _ => k - (intOf iv).toNat)
        case atStart => exact ⟨0, by omega, rfl, show ∀ _, _ from fun j h => by omega, hA2, hb2⟩
        case round =>
          obtain ⟨m, hm, rfl, H3, hAx, hbx⟩ := hrel
          clear hA2 hb2 hbz
          by_cases hlm : m < k
          · obtain ⟨d0, d1, d2⟩ := (hcell m (by omega)).keep fun i => hbx.cell (p := ⟨b, i, none⟩) hbl
            have B3 := Lib.hid (fun h => B2.out m hlm h)
            have K3 : Hid (ltG (atG gs m) ⟨ro, tb, bi⟩ = true → Hid (∀ j, j < m + 1 → ltG (atG gs j) ⟨ro, tb, bi⟩ = true)) := by
              show _ → _
              intro h
              show ∀ _, _
              intro j hj
              by_cases e : j = m
              · rw [e]; exact h
              · exact H3.out j (by omega)
            obtain ⟨g', hgg⟩ : ∃ g', g' = gs.getD m default := ⟨_, rfl⟩
            rw [show atG gs m = gs.getD m default from rfl] at K3 B3
            rw [← hgg] at K3 B3 d0 d1 d2
            clear hgg hcell H3 K2 B2
            obtain ⟨ro', tb', bi'⟩ := g'
            simp only at d0 d1 d2
            have hb0 := below_box wr (.cells #[.int .i64 ro', .string ⟨tb'.toArray⟩, .int .i64 bi'] 50)
            have hb3 := below_in hbx hb0
            have hA3 := hAx.below hb0 hAx.lt
            obtain ⟨t0, t1, t2⟩ := hA3.tri0
            have hmk : (m : Int) < (k : Int) := by omega
            have hmc : (m : Int) < (cap : Int) := by omega
            clear hb0
            by_cases e1 : ro < ro'
            · have HB : Hid (R = false) := by show _ = _; rw [← HR.out, decide_eq_false (B3.out (ltK_gt e1 _ _))]
              have e1' : (ro' > ro) := e1
              clear B3 K3 hAx hbx
              go_wp2_with fail
              all_goals
                go_ret
                exact ⟨by rw [HB.out]; rfl, hb3⟩
            · by_cases e2 : ro' = ro
              · subst e2
                have hke := ltK_eq ro' tb' tb
                have K4 : Hid (bytesLess tb' tb = true → Hid (∀ j, j < m + 1 → ltG (atG gs j) ⟨ro', tb, bi⟩ = true)) := by
                  show _ → _
                  intro h
                  exact K3.out (hke.trans h)
                have B4 : Hid (bytesLess tb' tb = false → R = false) := by
                  show _ → _
                  intro h
                  rw [← HR.out, decide_eq_false (B3.out (hke.trans h))]
                clear hke K3 B3 hAx hbx
                cases hs : bytesLess tb' tb with
                | true =>
                  have HK3 := K4.out hs
                  clear K4 B4
                  go_wp2_with fail
                  exact ⟨⟨m + 1, by omega, by go_num, HK3, hA3, hb3⟩, by simp [intOf]; omega⟩
                | false =>
                  have HB := Lib.hid (B4.out hs)
                  clear K4 B4
                  go_wp2_with fail
                  go_ret
                  exact ⟨by rw [HB.out]; rfl, hb3⟩
              · have HK3 := K3.out (ltK_lt (show ro' < ro by omega) _ _)
                clear B3 K3 hAx hbx
                go_wp2_with fail
                exact ⟨⟨m + 1, by omega, by go_num, HK3, hA3, hb3⟩, by simp [intOf]; omega⟩
          · obtain rfl : k = m := by omega
            have HK2 := K2.out H3.out
            go_wp2_with fail
            exact ⟨⟨k + 1, by omega, by go_num, HK1, HK2, hbx⟩, by simp [intOf]; omega⟩
    · obtain rfl : n = k := by omega
      by_cases h64 : n ≤ 64
      · have HT : Hid (R = true) := by show _ = _; rw [← HR.out, decide_eq_true ⟨by omega, by rw [hgl]; exact H1.out, by rw [hgl]; exact H2.out⟩]
        clear H1 H2
        go_wp2_with fail
        go_ret
        exact ⟨by rw [HT.out]; first | rfl | (show Ending.returned (Value.bool _) = _; congr 2; simp; omega), hbr⟩
      · have HT : Hid (R = false) := by show _ = _; rw [← HR.out, decide_eq_false (fun h => by have := h.1; omega)]
        clear H1 H2
        go_wp2_with fail
        go_ret
        exact ⟨by rw [HT.out]; first | rfl | (show Ending.returned (Value.bool _) = _; congr 2; simp; omega), hbr⟩

set_option maxRecDepth 100000 in
set_option maxHeartbeats 1600000 in
theorem rbits_any (A : Option Addr) (n cap : Nat) (gs : List Gr) (r : Int) (t : List UInt8) (w : World) (hr : RowG w A n gs) (hn : n ≤ maxLen) :
    Calls Tryz.prog 18 #[.slice A n cap, .int .i64 r, .string ⟨t.toArray⟩] w fun e w' => e = .returned (.int .i64 (bitsG r t gs)) ∧ Below w.heap.size w w' := by
  unfold maxLen at hn
  have hgl := hr.1
  obtain ⟨R, hR⟩ : ∃ R, bitsG r t gs = R := ⟨_, rfl⟩
  rw [hR]
  have HR := Lib.hid hR
  clear hR
  go_enter Tryz.func18, Tryz.ntmps18
  go_wp2_with fail
  go_loopw [11] (fun iv wr => ∃ (k : Nat), k ≤ n ∧ iv = .int .i64 k ∧ Hid (∀ j, j < k → ¬ ((atG gs j).role = r ∧ (atG gs j).table = t)) ∧ Below w.heap.size w wr) (fun iv _ => n - (intOf iv).toNat)
  case atStart => exact ⟨0, by omega, rfl, show ∀ _, _ from fun j h => by omega, Below.refl _ _⟩
  case round =>
    obtain ⟨k, hk, rfl, H1, hbr⟩ := hrel
    by_cases hlt : k < n
    · obtain ⟨b, off, rfl, hbl, hcell⟩ := hr.2.2 (by omega)
      obtain ⟨c0, c1, c2⟩ := (hcell k hlt).keep fun i => hbr.cell (p := ⟨b, i, none⟩) hbl
      have KH : Hid ((atG gs k).role = r → (atG gs k).table = t → R = (atG gs k).bits) := by
        show _ → _ → _
        intro h1 h2
        rw [← HR.out]
        exact bitsG_hit (by omega) H1.out h1 h2
      have KN : Hid (¬ ((atG gs k).role = r ∧ (atG gs k).table = t) → Hid (∀ j, j < k + 1 → ¬ ((atG gs j).role = r ∧ (atG gs j).table = t))) := by
        show _ → _
        intro h
        show ∀ _, _
        intro j hj
        by_cases e : j = k
        · rw [e]; exact h
        · exact H1.out j (by omega)
      clear H1 hcell
      obtain ⟨g, hgg⟩ : ∃ g, g = gs.getD k default := ⟨_, rfl⟩
      rw [show atG gs k = gs.getD k default from rfl] at KH KN
      rw [← hgg] at KH KN c0 c1 c2
      clear hgg
      obtain ⟨ro, tb, bi⟩ := g
      simp only at c0 c1 c2
      have hb0 := below_box wr (.cells #[.int .i64 ro, .string ⟨tb.toArray⟩, .int .i64 bi] 50)
      have hb3 := below_in hbr hb0
      clear hb0
      by_cases e1 : ro = r
      · subst e1
        by_cases e2 : tb = t
        · have HB := Lib.hid (KH.out rfl e2)
          have e2' : (tb == t) = true := by simp [e2]
          clear KH KN
          subst e2
          go_wp2_with fail
          go_ret
          exact ⟨by rw [HB.out]; rfl, hb3⟩
        · have HB := KN.out (fun h => e2 h.2)
          have e2' : (tb == t) = false := by simp [e2]
          clear KH KN
          go_wp2_with fail
          exact ⟨⟨k + 1, by omega, by go_num, HB, hb3⟩, by simp [intOf]; omega⟩
      · have HB := KN.out (fun h => e1 h.1)
        have e1' : (ro == r) = false := by simp [e1]
        clear KH KN
        go_wp2_with fail
        exact ⟨⟨k + 1, by omega, by go_num, HB, hb3⟩, by simp [intOf]; omega⟩
    · obtain rfl : n = k := by omega
      have HT : Hid (R = 0) := by show _ = _; rw [← HR.out]; exact bitsG_none (by rw [hgl]; exact H1.out)
      clear H1
      go_wp2_with fail
      go_ret
      exact ⟨by rw [HT.out]; rfl, hbr⟩
end Go.Proofs.YtnhalfdddcjicaaGreat

namespace Go.Proofs.YtnhalfdddcjicaaGreat
open Go.RowKit

def tabAt (s : Sc) (t : List UInt8) : Option Nat := firstAt (fun j => (s.tab j).name) t s.tn
def ownsS (s : Sc) (r : Int) (t : List UInt8) : Bool := match tabAt s t with
  | none => false
  | some j => decide (0 ≤ r ∧ r ≤ 7) && (decide (r = 0) || decide (r = (s.tab j).owner))
def OwnerE (s : Sc) (t : List UInt8) (e : Ending) : Prop := match tabAt s t with
  | none => e = .returned (.tuple #[.int .i64 0, .bool false])
  | some j => e = .returned (.tuple #[.int .i64 (s.tab j).owner, .bool true])

theorem firstAt_hit {f : Nat → List UInt8} {x : List UInt8} {k n : Nat} (h : firstAt f x k = none) (hk : k < n) (e : f k = x) : firstAt f x n = some k := by
  have h1 : firstAt f x (k + 1) = some k := by rw [firstAt, h]; simp [e]
  obtain ⟨d, rfl⟩ : ∃ d, n = k + 1 + d := ⟨n - (k + 1), by omega⟩
  exact firstAt_more h1 d

set_option maxRecDepth 100000 in
set_option maxHeartbeats 1600000 in
theorem ownerOf_any (s : Sc) (t : List UInt8) (w : World) (hs : InS w s) :
    Calls Tryz.prog 122 #[s.val, .string ⟨t.toArray⟩] w fun e w' => OwnerE s t e ∧ Below w.heap.size w w' := by
  have HO : Hid (∀ e, OwnerE s t e = match tabAt s t with
  | none => e = .returned (.tuple #[.int .i64 0, .bool false])
  | some j => e = .returned (.tuple #[.int .i64 (s.tab j).owner, .bool true])) := fun _ => rfl
  have htm := hs.tmax
  have hT := hs.tabs
  unfold maxLen at htm
  have b0 := below_box w (.cells #[.int .i64 s.ver, .slice s.tA s.tn s.tcap, .slice s.gA s.gn s.gcap] 25)
  unfold Sc.val
  go_enter Tryz.func122, Tryz.ntmps122
  go_wp2_with fail
  obtain ⟨R, hR⟩ : ∃ R, tabAt s t = R := ⟨_, rfl⟩
  rw [hR] at HO
  have HR := Lib.hid hR
  clear hR
  go_loopw [11] (fun iv wr => ∃ (k : Nat), k ≤ s.tn ∧ iv = .int .i64 k ∧ Hid (firstAt (fun j => (s.tab j).name) t k = none) ∧ Below w.heap.size w wr) (fun iv _ => s.tn - (intOf iv).toNat)
  case atStart => exact ⟨0, by omega, rfl, rfl, b0⟩
  case round =>
    obtain ⟨k, hk, rfl, HF, hbr⟩ := hrel
    clear b0
    by_cases hlt : k < s.tn
    · obtain ⟨b, off, htA, hbl, hcell⟩ := hT (by omega)
      obtain ⟨c0, c1, c2, c3⟩ := (hcell k hlt).1.keep fun i => hbr.cell (p := ⟨b, i, none⟩) hbl
      have HH : Hid ((s.tab k).name = t → R = some k) := by
        show _ → _
        intro h
        rw [← HR.out]
        exact firstAt_hit HF.out hlt h
      have HN := Lib.hid (fun e => first_next (f := fun j => (s.tab j).name) HF.out e)
      rw [htA]
      clear hcell hT HF
      obtain ⟨T, hTk⟩ : ∃ T, T = s.tab k := ⟨_, rfl⟩
      have HT := Lib.hid hTk
      rw [← hTk] at c0 c1 c2 c3
      clear hTk
      have hb0 := below_box wr (.cells #[.string ⟨T.name.toArray⟩, .int .i64 T.owner, .slice T.cA T.cn T.ccap, .slice T.eA T.en T.ecap] 32)
      have hb3 := below_in hbr hb0
      clear hb0
      by_cases he : T.name = t
      · have hd : (T.name == t) = true := by simpa using he
        have HG : Hid (OwnerE s t (.returned (.tuple #[.int .i64 T.owner, .bool true]))) := by
          show OwnerE _ _ _
          rw [HO.out, HH.out (by rw [← HT.out]; exact he), HT.out]
        clear HH HN
        rw [he] at hb3
        go_wp2_with fail
        exact bodyPost_ret (v := .tuple #[.int .i64 T.owner, .bool true]) (by simp [results, Tryz.results122, go_sem]) rfl ⟨HG.out, hb3⟩
      · have hd : (T.name == t) = false := by simpa using he
        have HG := Lib.hid (HN.out (by show (s.tab k).name ≠ t; rw [← HT.out]; exact he))
        clear HH HN
        go_wp2_with fail
        exact ⟨⟨k + 1, by omega, by go_num, HG, hb3⟩, by simp [intOf]; omega⟩
    · obtain rfl : k = s.tn := by omega
      have HG : Hid (OwnerE s t (.returned (.tuple #[.int .i64 0, .bool false]))) := by
        show OwnerE _ _ _
        rw [HO.out, ← HR.out, show tabAt s t = none from HF.out]
      go_wp2_with fail
      exact bodyPost_ret (v := .tuple #[.int .i64 0, .bool false]) (by simp [results, Tryz.results122, go_sem]) rfl ⟨HG.out, hbr⟩

set_option maxRecDepth 100000 in
set_option maxHeartbeats 1600000 in
theorem gowns_any (s : Sc) (r : Int) (t : List UInt8) (w : World) (hs : InS w s) :
    Calls Tryz.prog 99 #[s.val, .int .i64 r, .string ⟨t.toArray⟩] w fun e w' => e = .returned (.bool (ownsS s r t)) ∧ Below w.heap.size w w' := by
  have b0 := below_box w (.cells #[.int .i64 s.ver, .slice s.tA s.tn s.tcap, .slice s.gA s.gn s.gcap] 25)
  have hO := fun w' (b : Below w.heap.size w w') => ownerOf_any s t w' (hs.below b)
  obtain ⟨R, hR⟩ : ∃ R, ownsS s r t = R := ⟨_, rfl⟩
  rw [hR]
  unfold ownsS at hR
  unfold OwnerE at hO
  unfold Sc.val at hO ⊢
  cases hf : tabAt s t with
  | none =>
    rw [hf] at hR hO
    simp only at hR hO
    have HR : Hid (R = false) := hR.symm
    clear hR
    go_enter Tryz.func99, Tryz.ntmps99
    go_wp2_with fail
    refine (hO _ b0).mono ?_
    rintro e w1 ⟨rfl, b1⟩
    have hb1 := below_in b0 b1
    go_wp2_with fail
    go_ret
    exact ⟨by rw [HR.out]; first | rfl | (show Ending.returned (Value.bool _) = _; congr 2; simp; omega), hb1⟩
  | some j =>
    rw [hf] at hR hO
    simp only at hR hO
    generalize (s.tab j).owner = o at *
    by_cases hr7 : 0 ≤ r ∧ r ≤ 7
    · have HL : Hid (decide (0 ≤ r ∧ r ≤ 7) = true) := decide_eq_true hr7
      rw [decide_eq_true hr7] at hR
      by_cases h0 : r = 0
      · subst h0
        have HR : Hid (R = true) := by rw [← hR]; rfl
        clear hR
        go_enter Tryz.func99, Tryz.ntmps99
        go_wp2_with fail
        refine (hO _ b0).mono ?_
        rintro e w1 ⟨rfl, b1⟩
        have hb1 := below_in b0 b1
        go_wp2_with (go_at_call 21; refine (role_any _ _).mono ?_; rintro e w' ⟨rfl, rfl⟩; rw [HL.out])
        go_ret
        exact ⟨by rw [HR.out]; first | rfl | (show Ending.returned (Value.bool _) = _; congr 2; simp; omega), hb1⟩
      · by_cases hro : r = o
        · have HR : Hid (R = true) := by show R = true; rw [← hR, decide_eq_true hro]; simp
          clear hR
          have h0' : (r == 0) = false := by simpa using h0
          subst hro
          go_enter Tryz.func99, Tryz.ntmps99
          go_wp2_with fail
          refine (hO _ b0).mono ?_
          rintro e w1 ⟨rfl, b1⟩
          have hb1 := below_in b0 b1
          go_wp2_with (go_at_call 21; refine (role_any _ _).mono ?_; rintro e w' ⟨rfl, rfl⟩; rw [HL.out])
          go_ret
          exact ⟨by rw [HR.out]; first | rfl | (show Ending.returned (Value.bool _) = _; congr 2; simp; omega), hb1⟩
        · have HR : Hid (R = false) := by rw [← hR, decide_eq_false hro, decide_eq_false h0]; rfl
          clear hR
          have h0' : (r == 0) = false := by simpa using h0
          have hro' : (r == o) = false := by simpa using hro
          go_enter Tryz.func99, Tryz.ntmps99
          go_wp2_with fail
          refine (hO _ b0).mono ?_
          rintro e w1 ⟨rfl, b1⟩
          have hb1 := below_in b0 b1
          go_wp2_with (go_at_call 21; refine (role_any _ _).mono ?_; rintro e w' ⟨rfl, rfl⟩; rw [HL.out])
          go_ret
          exact ⟨by rw [HR.out]; first | rfl | (show Ending.returned (Value.bool _) = _; congr 2; simp; omega), hb1⟩
    · have HL : Hid (decide (0 ≤ r ∧ r ≤ 7) = false) := decide_eq_false hr7
      have HR : Hid (R = false) := by rw [← hR, decide_eq_false hr7]; rfl
      clear hR
      go_enter Tryz.func99, Tryz.ntmps99
      go_wp2_with fail
      refine (hO _ b0).mono ?_
      rintro e w1 ⟨rfl, b1⟩
      have hb1 := below_in b0 b1
      go_wp2_with (go_at_call 21; refine (role_any _ _).mono ?_; rintro e w' ⟨rfl, rfl⟩; rw [HL.out])
      go_ret
      exact ⟨by rw [HR.out]; first | rfl | (show Ending.returned (Value.bool _) = _; congr 2; simp; omega), hb1⟩
end Go.Proofs.YtnhalfdddcjicaaGreat

namespace Go.Proofs.YtnhalfdddcjicaaGreat
open Go.RowKit

theorem place_none {gs : List Gr} {r : Int} {t : List UInt8} {i : Nat} (hp : PlaceG gs r t i false) (hs : SortedG gs) : ∀ j, j < gs.length → ¬ ((atG gs j).role = r ∧ (atG gs j).table = t) := fun j hj hm => by
  rcases Nat.lt_trichotomy j i with h | h | h
  · have hl := hp.low (by omega)
    by_cases e : j = i - 1
    · rw [← e, hm.1, hm.2, ltK_irr] at hl; cases hl
    · have h2 := hs.2.2 (i - 1) (by have := hp.le; omega) j (by omega)
      unfold ltG at h2
      have h3 := ltK_trans h2 hl
      rw [hm.1, hm.2, ltK_irr] at h3; cases h3
  · subst h
    exact hp.no rfl hj hm
  · have h2 := hs.2.2 j hj i h
    unfold ltG at h2
    rw [hm.1, hm.2, hp.high (by omega)] at h2; cases h2
theorem place_one {gs : List Gr} (hs : SortedG gs) {i j : Nat} (hi : i < gs.length) (hj : j < gs.length) (h1 : (atG gs i).role = (atG gs j).role) (h2 : (atG gs i).table = (atG gs j).table) : i = j := by
  rcases Nat.lt_trichotomy i j with h | h | h
  · have h3 := hs.2.2 j hj i h
    unfold ltG at h3
    rw [h1, h2, ltK_irr] at h3; cases h3
  · exact h
  · have h3 := hs.2.2 i hi j h
    unfold ltG at h3
    rw [h1, h2, ltK_irr] at h3; cases h3

def andI (a x : Int) : Int := Go.bits BinOp.and IntKind.i64 a x
def hasG (gs : List Gr) (r : Int) (t : List UInt8) (x : Int) : Prop := ∃ j, j < gs.length ∧ ((atG gs j).role = r ∧ (atG gs j).table = t) ∧ andI (atG gs j).bits x = x
def MayP (s : Sc) (r : Int) (t : List UInt8) (x : Int) : Prop := tabAt s t ≠ none ∧ (0 ≤ r ∧ r ≤ 7) ∧ (ownsS s r t = true ∨ hasG s.grants r t x)
def MayE (s : Sc) (r : Int) (t : List UInt8) (x : Int) (e : Ending) : Prop := ∃ B : Bool, e = .returned (.bool B) ∧ (SortedG s.grants → (B = true ↔ MayP s r t x))
theorem owns_may {s : Sc} {r : Int} {t : List UInt8} (h : ownsS s r t = true) (x : Int) : MayP s r t x := by
  refine ⟨fun e => ?_, ?_, .inl h⟩
  · unfold ownsS at h; rw [e] at h; cases h
  · unfold ownsS at h
    cases hf : tabAt s t with
    | none => rw [hf] at h; cases h
    | some j =>
      rw [hf] at h
      simp only [Bool.and_eq_true, decide_eq_true_eq] at h
      exact h.1
theorem has_at {gs : List Gr} {r : Int} {t : List UInt8} {i : Nat} (hs : SortedG gs) (hi : i < gs.length) (h1 : (atG gs i).role = r) (h2 : (atG gs i).table = t) (x : Int) : hasG gs r t x ↔ andI (atG gs i).bits x = x :=
  ⟨fun ⟨j, hj, ⟨e1, e2⟩, h⟩ => by rw [place_one hs hi hj (h1.trans e1.symm) (h2.trans e2.symm)]; exact h, fun h => ⟨i, hi, ⟨h1, h2⟩, h⟩⟩

set_option maxRecDepth 100000 in
set_option maxHeartbeats 1600000 in
theorem gmay_any (s : Sc) (r : Int) (t : List UInt8) (x : Int) (w : World) (hs : InS w s) :
    Calls Tryz.prog 98 #[s.val, .int .i64 r, .string ⟨t.toArray⟩, .int .i64 x] w fun e w' => MayE s r t x e ∧ Below w.heap.size w w' := by
  have HM : Hid (∀ B : Bool, (SortedG s.grants → (B = true ↔ MayP s r t x)) → MayE s r t x (.returned (.bool B))) := by
    show ∀ _, _
    exact fun B h => ⟨B, rfl, h⟩
  have b0 := below_box w (.cells #[.int .i64 s.ver, .slice s.tA s.tn s.tcap, .slice s.gA s.gn s.gcap] 25)
  have hW := fun w' (b : Below w.heap.size w w') => gowns_any s r t w' (hs.below b)
  have hO := fun w' (b : Below w.heap.size w w') => ownerOf_any s t w' (hs.below b)
  have hF := fun w' (b : Below w.heap.size w w') => gfind_any s.gA s.gn s.gcap s.grants r t w' (hs.grants.below b) hs.gmax
  have aS := At.fresh w 25 #[.int .i64 s.ver, .slice s.tA s.tn s.tcap, .slice s.gA s.gn s.gcap]
  unfold OwnerE at hO
  unfold Sc.val at hO hW ⊢
  cases hw : ownsS s r t with
  | true =>
    have HE := Lib.hid (HM.out true (fun _ => ⟨fun _ => owns_may hw x, fun _ => rfl⟩))
    rw [hw] at hW
    go_enter Tryz.func98, Tryz.ntmps98
    go_wp2_with fail
    refine (hW _ b0).mono ?_
    rintro e w1 ⟨rfl, b1⟩
    have hb1 := below_in b0 b1
    go_wp2_with fail
    go_ret
    exact ⟨HE.out, hb1⟩
  | false =>
    rw [hw] at hW
    have hno : ∀ {P : Prop}, (false = true ∨ P ↔ P) := fun {P} => by simp
    cases hf : tabAt s t with
    | none =>
      have HE := Lib.hid (HM.out false (fun _ => ⟨fun h => (by cases h), fun h => absurd hf h.1⟩))
      rw [hf] at hO
      simp only at hO
      go_enter Tryz.func98, Tryz.ntmps98
      go_wp2_with fail
      refine (hW _ b0).mono ?_
      rintro e w1 ⟨rfl, b1⟩
      have hb1 := below_in b0 b1
      obtain ⟨c0, c1, c2⟩ := (aS.below b1 aS.lt).tri0
      go_wp2_with fail
      refine (hO _ hb1).mono ?_
      rintro e w2 ⟨rfl, b2⟩
      have hb2 := below_in hb1 b2
      go_wp2_with fail
      go_ret
      exact ⟨HE.out, hb2⟩
    | some j =>
      rw [hf] at hO
      simp only at hO
      generalize (s.tab j).owner = o at hO
      by_cases hr7 : 0 ≤ r ∧ r ≤ 7
      · have HL : Hid (decide (0 ≤ r ∧ r ≤ 7) = true) := decide_eq_true hr7
        have HP : Hid (∀ P : Prop, (SortedG s.grants → (P ↔ hasG s.grants r t x)) → SortedG s.grants → (P ↔ MayP s r t x)) := by
          show ∀ _, _
          exact fun P h hs' => ⟨fun p => ⟨fun e => (by rw [hf] at e; cases e), hr7, .inr ((h hs').1 p)⟩, fun m => (h hs').2 (m.2.2.resolve_left (by rw [hw]; simp))⟩
        go_enter Tryz.func98, Tryz.ntmps98
        go_wp2_with fail
        refine (hW _ b0).mono ?_
        rintro e w1 ⟨rfl, b1⟩
        have hb1 := below_in b0 b1
        obtain ⟨c0, c1, c2⟩ := (aS.below b1 aS.lt).tri0
        go_wp2_with fail
        refine (hO _ hb1).mono ?_
        rintro e w2 ⟨rfl, b2⟩
        have hb2 := below_in hb1 b2
        have aS2 := (aS.below b1 aS.lt).below b2 (aS.below b1 aS.lt).lt
        clear c0 c1 c2
        obtain ⟨c0, c1, c2⟩ := aS2.tri0
        go_wp2_with (go_at_call 21; refine (role_any _ _).mono ?_; rintro e w' ⟨rfl, rfl⟩; rw [HL.out])
        refine (hF _ hb2).mono ?_
        rintro e w3 ⟨⟨i, B, rfl, hp⟩, b3⟩
        have hb3 := below_in hb2 b3
        obtain ⟨-, -, d2⟩ := (aS2.below b3 aS2.lt).tri0
        clear c0 c1 c2
        cases B with
        | true =>
          have hin := (hp.yes rfl).1
          have hgl := hs.grants.1
          obtain ⟨gb, goff, hgA, hgbl, hcell⟩ := hs.grants.2.2 (by omega)
          obtain ⟨g0, g1, g2⟩ := (hcell i (by omega)).keep fun i => hb3.cell (p := ⟨gb, i, none⟩) hgbl
          rw [hgA] at d2
          have hig : (i : Int) < (s.gn : Int) := by omega
          have HE := Lib.hid (HM.out (andI (s.grants.getD i default).bits x == x) (HP.out _ (fun hs' => by rw [has_at hs' hin (hp.yes rfl).2.1 (hp.yes rfl).2.2 x]; simp)))
          generalize s.grants.getD i default = g at HE g0 g1 g2
          clear hcell hp hin
          go_wp2_with fail
          go_ret
          exact ⟨HE.out, hb3⟩
        | false =>
          have HE := Lib.hid (HM.out false (HP.out _ (fun hs' => ⟨fun h => (by cases h), fun ⟨j', hj', hm, _⟩ => absurd hm (place_none hp hs' j' hj')⟩)))
          go_wp2_with fail
          go_ret
          exact ⟨HE.out, hb3⟩
      · have HL : Hid (decide (0 ≤ r ∧ r ≤ 7) = false) := decide_eq_false hr7
        have HE := Lib.hid (HM.out false (fun _ => ⟨fun h => (by cases h), fun h => absurd h.2.1 hr7⟩))
        go_enter Tryz.func98, Tryz.ntmps98
        go_wp2_with fail
        refine (hW _ b0).mono ?_
        rintro e w1 ⟨rfl, b1⟩
        have hb1 := below_in b0 b1
        obtain ⟨c0, c1, c2⟩ := (aS.below b1 aS.lt).tri0
        go_wp2_with fail
        refine (hO _ hb1).mono ?_
        rintro e w2 ⟨rfl, b2⟩
        have hb2 := below_in hb1 b2
        go_wp2_with (go_at_call 21; refine (role_any _ _).mono ?_; rintro e w' ⟨rfl, rfl⟩; rw [HL.out])
        go_ret
        exact ⟨HE.out, hb2⟩
end Go.Proofs.YtnhalfdddcjicaaGreat
