/- The walks of Owns and May, both sides. -/
import Derived.Test.YteehccklnidofaaQGrD
namespace Go.Proofs.Yteehccklnidofaa
open Go.RowKit

def tabAt (s : Sc) (t : List UInt8) : Option Nat := firstAt (fun j => (s.tab j).name) t s.tn
def ownsS (s : Sc) (r : Int) (t : List UInt8) : Bool := match tabAt s t with
  | none => false
  | some j => decide (0 ≤ r ∧ r ≤ 7) && (decide (r = 0) || decide (r = (s.tab j).owner))
def OwnerE (s : Sc) (t : List UInt8) (e : Ending) : Prop := match tabAt s t with
  | none => e = .returned (.tuple #[.int .i64 0, .bool false])
  | some j => e = .returned (.tuple #[.int .i64 (s.tab j).owner, .bool true])

theorem firstAt_hit {f : Nat → List UInt8} {x : List UInt8} {k n : Nat} (h : firstAt f x k = none) (hk : k < n) (e : f k = x) : firstAt f x n = some k := by
  have h1 : firstAt f x (k + 1) = some k := by rw [firstAt, h]; simp [e]
  obtain ⟨d, rfl⟩ : ∃ d, n = k + 1 + d := ⟨n - (k + 1), by omega⟩
  exact firstAt_more h1 d

set_option maxRecDepth 100000 in
set_option maxHeartbeats 1600000 in
theorem ownerOf_any (s : Sc) (t : List UInt8) (w : World) (hs : InS w s) :
    Calls Try.prog 33 #[s.val, .string ⟨t.toArray⟩] w fun e w' => OwnerE s t e ∧ Below w.heap.size w w' := by
  have HO : Hid (∀ e, OwnerE s t e = match tabAt s t with
  | none => e = .returned (.tuple #[.int .i64 0, .bool false])
  | some j => e = .returned (.tuple #[.int .i64 (s.tab j).owner, .bool true])) := fun _ => rfl
  have htm := hs.tmax
  have hT := hs.tabs
  unfold maxLen at htm
  have b0 := below_box w (.cells #[.int .i64 s.ver, .slice s.tA s.tn s.tcap, .slice s.gA s.gn s.gcap] 36)
  unfold Sc.val
  go_enter Try.func33, Try.ntmps33
  go_wp2_with fail
  obtain ⟨R, hR⟩ : ∃ R, tabAt s t = R := ⟨_, rfl⟩
  rw [hR] at HO
  have HR := Lib.hid hR
  clear hR
  go_loopw [11] (fun iv wr => ∃ (k : Nat), k ≤ s.tn ∧ iv = .int .i64 k ∧ Hid (firstAt (fun j => (s.tab j).name) t k = none) ∧ Below w.heap.size w wr) (fun iv _ => s.tn - (intOf iv).toNat)
  case atStart => exact ⟨0, by omega, rfl, rfl, b0⟩
  case round =>
    obtain ⟨k, hk, rfl, HF, hbr⟩ := hrel
    clear b0
    by_cases hlt : k < s.tn
    · obtain ⟨b, off, htA, hbl, hcell⟩ := hT (by omega)
      obtain ⟨c0, c1, c2, c3⟩ := (hcell k hlt).1.keep fun i => hbr.cell (p := ⟨b, i, none⟩) hbl
      have HH : Hid ((s.tab k).name = t → R = some k) := by
        show _ → _
        intro h
        rw [← HR.out]
        exact firstAt_hit HF.out hlt h
      have HN := Lib.hid (fun e => first_next (f := fun j => (s.tab j).name) HF.out e)
      rw [htA]
      clear hcell hT HF
      obtain ⟨T, hTk⟩ : ∃ T, T = s.tab k := ⟨_, rfl⟩
      have HT := Lib.hid hTk
      rw [← hTk] at c0 c1 c2 c3
      clear hTk
      have hb0 := below_box wr (.cells #[.string ⟨T.name.toArray⟩, .int .i64 T.owner, .slice T.cA T.cn T.ccap, .slice T.eA T.en T.ecap] 48)
      have hb3 := below_in hbr hb0
      clear hb0
      by_cases he : T.name = t
      · have hd : (T.name == t) = true := by simpa using he
        have HG : Hid (OwnerE s t (.returned (.tuple #[.int .i64 T.owner, .bool true]))) := by
          show OwnerE _ _ _
          rw [HO.out, HH.out (by rw [← HT.out]; exact he), HT.out]
        clear HH HN
        rw [he] at hb3
        go_wp2_with fail
        exact bodyPost_ret (v := .tuple #[.int .i64 T.owner, .bool true]) (by simp [results, Try.results33, go_sem]) rfl ⟨HG.out, hb3⟩
      · have hd : (T.name == t) = false := by simpa using he
        have HG := Lib.hid (HN.out (by show (s.tab k).name ≠ t; rw [← HT.out]; exact he))
        clear HH HN
        go_wp2_with fail
        exact ⟨⟨k + 1, by omega, by go_num, HG, hb3⟩, by simp [intOf]; omega⟩
    · obtain rfl : k = s.tn := by omega
      have HG : Hid (OwnerE s t (.returned (.tuple #[.int .i64 0, .bool false]))) := by
        show OwnerE _ _ _
        rw [HO.out, ← HR.out, show tabAt s t = none from HF.out]
      go_wp2_with fail
      exact bodyPost_ret (v := .tuple #[.int .i64 0, .bool false]) (by simp [results, Try.results33, go_sem]) rfl ⟨HG.out, hbr⟩

set_option maxRecDepth 100000 in
set_option maxHeartbeats 1600000 in
theorem gowns_any (s : Sc) (r : Int) (t : List UInt8) (w : World) (hs : InS w s) :
    Calls Try.prog 20 #[s.val, .int .i64 r, .string ⟨t.toArray⟩] w fun e w' => e = .returned (.bool (ownsS s r t)) ∧ Below w.heap.size w w' := by
  have b0 := below_box w (.cells #[.int .i64 s.ver, .slice s.tA s.tn s.tcap, .slice s.gA s.gn s.gcap] 36)
  have hO := fun w' (b : Below w.heap.size w w') => ownerOf_any s t w' (hs.below b)
  obtain ⟨R, hR⟩ : ∃ R, ownsS s r t = R := ⟨_, rfl⟩
  rw [hR]
  unfold ownsS at hR
  unfold OwnerE at hO
  unfold Sc.val at hO ⊢
  cases hf : tabAt s t with
  | none =>
    rw [hf] at hR hO
    simp only at hR hO
    have HR : Hid (R = false) := hR.symm
    clear hR
    go_enter Try.func20, Try.ntmps20
    go_wp2_with fail
    refine (hO _ b0).mono ?_
    rintro e w1 ⟨rfl, b1⟩
    have hb1 := below_in b0 b1
    go_wp2_with fail
    go_ret
    exact ⟨by rw [HR.out]; first | rfl | (show Ending.returned (Value.bool _) = _; congr 2; simp; omega), hb1⟩
  | some j =>
    rw [hf] at hR hO
    simp only at hR hO
    generalize (s.tab j).owner = o at *
    by_cases hr7 : 0 ≤ r ∧ r ≤ 7
    · have HL : Hid (decide (0 ≤ r ∧ r ≤ 7) = true) := decide_eq_true hr7
      rw [decide_eq_true hr7] at hR
      by_cases h0 : r = 0
      · subst h0
        have HR : Hid (R = true) := by rw [← hR]; rfl
        clear hR
        go_enter Try.func20, Try.ntmps20
        go_wp2_with fail
        refine (hO _ b0).mono ?_
        rintro e w1 ⟨rfl, b1⟩
        have hb1 := below_in b0 b1
        go_wp2_with (go_at_call 19; refine (role_any _ _).mono ?_; rintro e w' ⟨rfl, rfl⟩; rw [HL.out])
        go_ret
        exact ⟨by rw [HR.out]; first | rfl | (show Ending.returned (Value.bool _) = _; congr 2; simp; omega), hb1⟩
      · by_cases hro : r = o
        · have HR : Hid (R = true) := by show R = true; rw [← hR, decide_eq_true hro]; simp
          clear hR
          have h0' : (r == 0) = false := by simpa using h0
          subst hro
          go_enter Try.func20, Try.ntmps20
          go_wp2_with fail
          refine (hO _ b0).mono ?_
          rintro e w1 ⟨rfl, b1⟩
          have hb1 := below_in b0 b1
          go_wp2_with (go_at_call 19; refine (role_any _ _).mono ?_; rintro e w' ⟨rfl, rfl⟩; rw [HL.out])
          go_ret
          exact ⟨by rw [HR.out]; first | rfl | (show Ending.returned (Value.bool _) = _; congr 2; simp; omega), hb1⟩
        · have HR : Hid (R = false) := by rw [← hR, decide_eq_false hro, decide_eq_false h0]; rfl
          clear hR
          have h0' : (r == 0) = false := by simpa using h0
          have hro' : (r == o) = false := by simpa using hro
          go_enter Try.func20, Try.ntmps20
          go_wp2_with fail
          refine (hO _ b0).mono ?_
          rintro e w1 ⟨rfl, b1⟩
          have hb1 := below_in b0 b1
          go_wp2_with (go_at_call 19; refine (role_any _ _).mono ?_; rintro e w' ⟨rfl, rfl⟩; rw [HL.out])
          go_ret
          exact ⟨by rw [HR.out]; first | rfl | (show Ending.returned (Value.bool _) = _; congr 2; simp; omega), hb1⟩
    · have HL : Hid (decide (0 ≤ r ∧ r ≤ 7) = false) := decide_eq_false hr7
      have HR : Hid (R = false) := by rw [← hR, decide_eq_false hr7]; rfl
      clear hR
      go_enter Try.func20, Try.ntmps20
      go_wp2_with fail
      refine (hO _ b0).mono ?_
      rintro e w1 ⟨rfl, b1⟩
      have hb1 := below_in b0 b1
      go_wp2_with (go_at_call 19; refine (role_any _ _).mono ?_; rintro e w' ⟨rfl, rfl⟩; rw [HL.out])
      go_ret
      exact ⟨by rw [HR.out]; first | rfl | (show Ending.returned (Value.bool _) = _; congr 2; simp; omega), hb1⟩
end Go.Proofs.Yteehccklnidofaa
