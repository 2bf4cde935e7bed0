/- The walks of the laws' small functions: Size, long, Great, great, lit. -/
import Derived.Test.YteehccklnidofaaQExJ
namespace Go.Proofs.Yteehccklnidofaa
open Go.RowKit

/-- Some two numbers. -/
def IsPair (e : Ending) : Prop := ∃ a b : Int, e = .returned (.tuple #[.int .i64 a, .int .i64 b])
def IsBool (e : Ending) : Prop := ∃ b : Bool, e = .returned (.bool b)
def IsI (v : Value) : Prop := ∃ a : Int, v = .int .i64 a

set_option maxRecDepth 100000 in
set_option maxHeartbeats 1600000 in
theorem size_any (e : Ex) : ∀ (w : World), InE w e → Calls Try.prog 39 #[e.val] w fun en w' => IsPair en ∧ Below w.heap.size w w' := by
  induction e with
  | nil => intro w h; exact h.elim
  | mk op col v B p cp arg ih =>
    intro w hin
    rw [InE] at hin
    obtain ⟨-, -, -, hp, harg⟩ := hin
    unfold maxLen at hp
    simp only [Ex.val, Ex.op, Ex.col, Ex.v, Ex.A, Ex.n, Ex.cap]
    have hb := below_box w (.cells #[.int .i64 op, .int .i64 col, .int .i64 v.kind, .int .i64 v.num, .string ⟨v.text.toArray⟩, .slice B p cp] 61)
    go_enter Try.func39, Try.ntmps39
    go_wp2
    go_loopw [4, 5, 13] (fun nv dv i wr => ∃ (k : Nat) (a d : Int), k ≤ p ∧ i = .int .i64 k ∧ nv = .int .i64 a ∧ dv = .int .i64 d ∧ Below w.heap.size w wr) (fun _ _ i _ => p - (intOf i).toNat)
    case atStart => exact ⟨0, 1, 0, by omega, rfl, rfl, rfl, hb⟩
    case round =>
      obtain ⟨k, a, d, hk, rfl, rfl, rfl, hbr⟩ := hrel
      by_cases hlt : k < p
      · obtain ⟨b, off, rfl, hbl, hcell⟩ := harg (by omega)
        have hcl := (hcell k hlt).1.below hbr hbl
        have hik := (hcell k hlt).2.below hbr
        have iha := fun w' (b' : Below wr.heap.size wr w') => ih k w' (hik.below b')
        unfold Ex.val at iha
        clear ih hcell hik harg
        obtain ⟨c0, c1, c2, c3, c4, c5⟩ := hcl
        have hbx := below_box wr (.cells #[.int .i64 (arg k).op, .int .i64 (arg k).col, .int .i64 (arg k).v.kind, .int .i64 (arg k).v.num, .string ⟨(arg k).v.text.toArray⟩, .slice (arg k).A (arg k).n (arg k).cap] 61)
        go_wp2_with fail
        refine (iha _ hbx).mono ?_
        rintro e w2 ⟨⟨y, z, rfl⟩, b2⟩
        have hb2 := below_in hbr (below_in hbx b2)
        go_wp2_with fail
        exact ⟨⟨k + 1, _, _, by omega, by go_num, rfl, rfl, hb2⟩, by simp [intOf]; omega⟩
      · go_wp2
        refine bodyPost_ret (results_tmp2 rfl _ _ _) rfl ⟨⟨_, _, rfl⟩, hbr⟩
set_option maxRecDepth 100000 in
set_option maxHeartbeats 1600000 in
theorem long_any (e : Ex) : ∀ (w : World), InE w e → Calls Try.prog 40 #[e.val] w fun en w' => IsBool en ∧ Below w.heap.size w w' := by
  induction e with
  | nil => intro w h; exact h.elim
  | mk op col v B p cp arg ih =>
    intro w hin
    rw [InE] at hin
    obtain ⟨-, -, hv, hp, harg⟩ := hin
    have hvt := hv.text
    unfold maxLen at hp hvt
    obtain ⟨vk, vn, vt⟩ := v
    simp only [Ex.val, Ex.op, Ex.col, Ex.v, Ex.A, Ex.n, Ex.cap]
    have hb := below_box w (.cells #[.int .i64 op, .int .i64 col, .int .i64 vk, .int .i64 vn, .string ⟨vt.toArray⟩, .slice B p cp] 61)
    have hA := At.fresh w 61 #[.int .i64 op, .int .i64 col, .int .i64 vk, .int .i64 vn, .string ⟨vt.toArray⟩, .slice B p cp]
    go_enter Try.func40, Try.ntmps40
    go_wp2
    have hW : w.heap.size < (w.alloc (.cells #[.int .i64 op, .int .i64 col, .int .i64 vk, .int .i64 vn, .string ⟨vt.toArray⟩, .slice B p cp] 61)).heap.size := hA.lt
    go_loopw [8] (fun i wr => ∃ (k : Nat), k ≤ p ∧ i = .int .i64 k ∧ Below w.heap.size w wr ∧ At wr w.heap.size 61 #[.int .i64 op, .int .i64 col, .int .i64 vk, .int .i64 vn, .string ⟨vt.toArray⟩, .slice B p cp]) (fun i _ => p - (intOf i).toNat)
    case atStart => exact ⟨0, by omega, rfl, hb, hA⟩
    case round =>
      obtain ⟨k, hk, rfl, hbr, hAr⟩ := hrel
      clear hA hW
      by_cases hlt : k < p
      · obtain ⟨b, off, rfl, hbl, hcell⟩ := harg (by omega)
        have hcl := (hcell k hlt).1.below hbr hbl
        have hik := (hcell k hlt).2.below hbr
        have iha := fun w' (b' : Below wr.heap.size wr w') => ih k w' (hik.below b')
        unfold Ex.val at iha
        clear ih hcell hik harg
        obtain ⟨c0, c1, c2, c3, c4, c5⟩ := hcl
        have hbx := below_box wr (.cells #[.int .i64 (arg k).op, .int .i64 (arg k).col, .int .i64 (arg k).v.kind, .int .i64 (arg k).v.num, .string ⟨(arg k).v.text.toArray⟩, .slice (arg k).A (arg k).n (arg k).cap] 61)
        go_wp2_with fail
        refine (iha _ hbx).mono ?_
        rintro e w2 ⟨⟨y, rfl⟩, b2⟩
        have hbc := below_in hbx b2
        have hb2 := below_in hbr hbc
        have hA2 := hAr.below hbc hAr.lt
        cases y with
        | true =>
          go_wp2_with fail
          go_ret
          exact ⟨⟨true, rfl⟩, hb2⟩
        | false =>
          go_wp2_with fail
          exact ⟨⟨k + 1, by omega, by go_num, hb2, hA2⟩, by simp [intOf]; omega⟩
      · obtain ⟨c0, c1, c2, c3, c4, c5⟩ := hAr.six
        go_wp2
        go_ret
        exact ⟨⟨_, rfl⟩, hbr⟩
set_option maxHeartbeats 800000 in
theorem refGreat_any (e : Ex) (w : World) (hin : InE w e) : Calls Try.prog 31 #[e.val] w fun en w' => IsBool en ∧ Below w.heap.size w w' := by
  have hb := below_box w (.cells #[.int .i64 e.op, .int .i64 e.col, .int .i64 e.v.kind, .int .i64 e.v.num, .string ⟨e.v.text.toArray⟩, .slice e.A e.n e.cap] 61)
  have hA := At.fresh w 61 #[.int .i64 e.op, .int .i64 e.col, .int .i64 e.v.kind, .int .i64 e.v.num, .string ⟨e.v.text.toArray⟩, .slice e.A e.n e.cap]
  have hs := fun w1 (b1 : Below w.heap.size w w1) => size_any e w1 (hin.below b1)
  have hl := fun w1 (b1 : Below w.heap.size w w1) => long_any e w1 (hin.below b1)
  unfold Ex.val at *
  go_enter Try.func31, Try.ntmps31
  go_wp2_with fail
  refine (hs _ hb).mono ?_
  rintro en w2 ⟨⟨y, z, rfl⟩, b2⟩
  have hb2 := below_in hb b2
  obtain ⟨c0, c1, c2, c3, c4, c5⟩ := (hA.below b2 hA.lt).six
  by_cases h1 : 300 < y
  · go_wp2_with fail
    go_ret
    exact ⟨⟨_, rfl⟩, hb2⟩
  have h1' : decide (300 < y) = false := by simpa using h1
  by_cases h2 : 60 < z
  · go_wp2_with fail
    go_ret
    exact ⟨⟨_, rfl⟩, hb2⟩
  have h2' : decide (60 < z) = false := by simpa using h2
  go_wp2_with fail
  refine (hl _ hb2).mono ?_
  rintro en w3 ⟨⟨x, rfl⟩, b3⟩
  have hb3 := below_in hb2 b3
  go_wp2_with fail
  go_ret
  exact ⟨⟨_, rfl⟩, hb3⟩
end Go.Proofs.Yteehccklnidofaa
