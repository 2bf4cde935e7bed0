/- Walks of package pack's leaf functions: toZigzag, fromZigzag, appendNumber. -/
import Derived.Test.YtlkeagfmlcbogaaRows
import Derived.WalkKit
import Derived.WalkSpells
import Derived.WalkLawsBesides
import Derived.Lib.Hide
import Derived.Deep.LoopGhost
import Derived.Test.YtlkeagfmlcbogaaMem
import Derived.Test.YtlkeagfmlcbogaaInfo
namespace Go.Proofs.Ytlkeagfmlcbogaa
open Go.RowKit

set_option maxRecDepth 100000 in
set_option maxHeartbeats 400000 in
theorem toZigzag_any (n : Int) (hI : I64 n) (w : World) :
    Calls Try.prog 65 #[.int .i64 n] w fun e w' => e = .returned (.int .u64 (Lib.zigzag n)) ∧ w = w' := by
  by_cases hn : n < 0
  · go_enter Try.func65, Try.ntmps65
    go_wp2
    go_ret
    exact ⟨ret_int (Lib.zigzag_neg hI.1 hn), rfl⟩
  · go_enter Try.func65, Try.ntmps65
    go_wp2
    go_ret
    refine ⟨ret_int ?_, rfl⟩
    rw [Lib.zigzag_nonneg (by omega), IntKind.wrap_u64, IntKind.wrap_u64]
    have := hI.2; omega

set_option maxRecDepth 100000 in
set_option maxHeartbeats 400000 in
theorem appendNumber_any (n : Int) (hI : I64 n) (base : Nat) (v : Value) (xs : List UInt8) (w : World) (ho : Owns w base 5 v xs) (hb : base ≤ w.heap.size)
    (hl : xs.length ≤ 1000000000) :
    Calls Try.prog 44 #[v, .int .i64 n] w fun e w' => ∃ g m cap, e = .returned (.slice (some ⟨g, 0, none⟩) m cap) ∧ Owns w' base 5 (.slice (some ⟨g, 0, none⟩) m cap) (xs ++ enc n) ∧ Grew w v w' (.slice (some ⟨g, 0, none⟩) m cap) := by
  obtain ⟨i0, hi0, hz0, hz1, hz2⟩ := info_parts info_u8
  go_enter Try.func44, Try.ntmps44
  go_wp2_with (go_at_call 65; refine (toZigzag_any n hI _).mono ?_; rintro e w' ⟨rfl, rfl⟩)
  go_loopw [0, 5] (fun v' t wr => ∃ (u : Nat) (ys : List UInt8), t = .int .u64 u ∧ U64 u ∧ Hid (ys ++ Lib.uvarint u = xs ++ Lib.uvarint (Lib.zigzag n)) ∧ Owns wr base 5 v' ys ∧ Grew w v wr v') (fun _ t _ => (intOf t).toNat)
  case atStart => exact ⟨_, xs, rfl, Lib.zigzag_lt hI.1 hI.2, rfl, ho, Grew.refl _ _⟩
  case round =>
    obtain ⟨u, ys, rfl, hu, hy, hown, hgr⟩ := hrel
    have hlen : ys.length + (Lib.uvarint u).length = xs.length + (Lib.uvarint (Lib.zigzag n)).length := by have := congrArg List.length hy.out; simpa using this
    have hlz : (Lib.uvarint (Lib.zigzag n)).length ≤ 10 := uvarint_len (Lib.zigzag_lt hI.1 hI.2)
    have hly : ys.length ≤ 2000000000 := by omega
    clear hlen hlz
    have hsz := hgr.grown.size
    have hown' : wr.ownsRow base 5 1 _ ys.length (Lib.byteCells ys) := hown
    by_cases hlt : u ≤ 127
    · go_wp2_with (at_builtin; refine wpList_append_lies _ rfl (.tmp 19) (.tmp 22) 50 rfl base 5 i0 (.int .u8 0) 1 1 Try.underlying50 hi0 hz0 hz1 hz2 rfl (by omega) _ _ _ rfl (hown'.alloc _) ⟨wr.heap.size, 0, none⟩ 1 1 [.int .u8 u] rfl rfl ?c1 ?c2 ?c3 ?c4 ?c5 ?c6 _ rfl ?_)
      case c1 =>
        intro j x hj
        match j, hj with
        | 0, hj => simp at hj; subst hj; simp [Addr.add]
      case c2 => intro x hx; simp at hx; subst hx; rfl
      case c3 => omega
      case c4 => unfold maxLen; omega
      case c5 => omega
      case c6 => simp; omega
      intro g cap w1 hown1 hg1 hat hlt1
      go_wp2
      go_ret
      refine ⟨_, _, _, rfl, ?_, (hgr.trans (Grew.alloc _ _ _)).trans (Grew.append hg1 (by simpa using hat))⟩
      have hs := owns_snoc (a := u) (by omega) rfl hown1
      unfold enc
      rw [← hy.out, Lib.uvarint_small (by omega)]
      exact hs
    · have h2 : (127 : Int) < u := by omega
      have hv := more_byte u hu
      go_wp2_with (at_builtin; refine wpList_append_lies _ rfl (.tmp 10) (.tmp 15) 50 rfl base 5 i0 (.int .u8 0) 1 1 Try.underlying50 hi0 hz0 hz1 hz2 rfl (by omega) _ _ _ rfl (hown'.alloc _) ⟨wr.heap.size, 0, none⟩ 1 1 [.int .u8 ((u : Int) % 128 + 128)] rfl rfl ?c1 ?c2 ?c3 ?c4 ?c5 ?c6 _ rfl ?_)
      case c1 =>
        intro j x hj
        match j, hj with
        | 0, hj => simp at hj; subst hj; simp [Addr.add]
      case c2 => intro x hx; simp at hx; subst hx; rfl
      case c3 => omega
      case c4 => unfold maxLen; omega
      case c5 => omega
      case c6 => simp; omega
      intro g cap w1 hown1 hg1 hat hlt1
      go_wp2
      refine ⟨⟨u / 128, ys ++ [(u % 128 + 128).toUInt8], by go_num, ?_, ?_, owns_snoc (by omega) (by omega) hown1, (hgr.trans (Grew.alloc _ _ _)).trans (Grew.append hg1 (by simpa using hat))⟩, by simp [intOf]; omega⟩
      · unfold U64 at hu ⊢; omega
      · have := hy.out
        rw [Lib.uvarint_big (by omega)] at this
        show _ ++ _ = _
        simpa using this

set_option maxRecDepth 100000 in
set_option maxHeartbeats 400000 in
theorem fromZigzag_any (u : Nat) (hu : U64 u) (w : World) :
    Calls Try.prog 70 #[.int .u64 u] w fun e w' => e = .returned (.int .i64 (unzig u)) ∧ w = w' := by
  have h1 : bits .and .u64 (u : Int) 1 = (u : Int) % 2 := Lib.u64_and1 _ (by omega) (by unfold U64 at hu; omega)
  by_cases hn : (((u : Int) % 2 == 1) = true)
  · go_enter Try.func70, Try.ntmps70
    go_wp2
    go_ret
    exact ⟨ret_int (unzig_odd u hu hn), rfl⟩
  · go_enter Try.func70, Try.ntmps70
    go_wp2
    go_ret
    exact ⟨ret_int (unzig_even u hu hn), rfl⟩
end Go.Proofs.Ytlkeagfmlcbogaa
