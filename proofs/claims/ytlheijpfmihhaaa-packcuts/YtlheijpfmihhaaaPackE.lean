/- The walk of the laws' function 'alive'. -/
import Derived.Test.YtlheijpfmihhaaaPackD
namespace Go.Proofs.Ytlheijpfmihhaaa
open Go.RowKit

theorem enc_small {n : Int} (h0 : 0 ≤ n) (h : n < 64) : enc n = [(2 * n).toNat.toUInt8] := by
  unfold enc Lib.zigzag
  rw [if_pos h0, Lib.uvarint_small (by omega)]
theorem encs_alive : encs [0, -1, 64] = [0, 1, 128, 1] := by
  have h1 : enc 0 = [0] := by rw [enc_small (by omega) (by omega)]; rfl
  have h2 : enc (-1) = [1] := by unfold enc; rw [Lib.uvarint_small (by decide)]; rfl
  have h3 : enc 64 = [128, 1] := by unfold enc; rw [Lib.uvarint_big (by decide), Lib.uvarint_small (by decide)]; rfl
  simp [encs, h1, h2, h3]

/-- A row of numbers that was just laid. -/
theorem Nums.new (w : World) (t : TypeId) (ns : List Int) : Nums (w.alloc (.cells (ns.map (Value.int .i64)).toArray t)) (some ⟨w.heap.size, 0, none⟩) ns.length ns := by
  refine ⟨rfl, fun _ => ⟨w.heap.size, 0, rfl, by simp, fun j hj => ?_⟩⟩
  rw [At.cell (At.fresh w t _) (0 + j)]
  simp [hj]

theorem Nums.new1 (w : World) (o : Obj) (t : TypeId) (ns : List Int) : Nums ((w.alloc o).alloc (.cells (ns.map (Value.int .i64)).toArray t)) (some ⟨w.heap.size + 1, 0, none⟩) ns.length ns := by
  have := Nums.new (w.alloc o) t ns
  simpa using this

/-- 'w.Int(x)': the list of one number has just been laid. -/
theorem wint_one (b base : Nat) (v : Value) (xs : List UInt8) (x : Int) (wr : World) (hb : At wr b 29 #[v]) (ho : Owns wr base 5 v xs) (hbase : base ≤ wr.heap.size) (hI : I64 x) (hl : xs.length ≤ 100000000) :
    Calls Try.prog 9 #[.pointer (some ⟨b, 0, none⟩), .slice (some ⟨wr.heap.size, 0, none⟩) 1 1] (wr.alloc (.cells #[.int .i64 x] 3)) fun e w' => e = .returned (.tuple #[]) ∧
      ∃ v', At w' b 29 #[v'] ∧ Owns w' base 5 v' (xs ++ enc x) ∧ Wgrew wr b v w' v' := by
  refine (wint_any b base v xs _ 1 1 [x] _ (hb.alloc _) (World.ownsRow.alloc ho _) (by simp; omega) (Nums.new wr 3 [x]) ?_ (by simpa using hI) (by omega)).mono ?_
  · intro _ c o h
    have hlt := hb.lt
    have hv := ho.lt
    have hc : c = wr.heap.size := by simp at h; exact h.1.symm
    refine ⟨by omega, fun e => ?_⟩
    have := hv c e
    omega
  · rintro e w' ⟨rfl, v', h1, h2, h3⟩
    refine ⟨rfl, v', h1, ?_, h3.alloc_l⟩
    simpa [encs] using h2
/-- 'x := &Writer{}; x.Int(n)'. -/
theorem wint_new (base : Nat) (x : Int) (w : World) (hbase : base ≤ w.heap.size) (hI : I64 x) :
    Calls Try.prog 9 #[.pointer (some ⟨w.heap.size, 0, none⟩), .slice (some ⟨w.heap.size + 1, 0, none⟩) 1 1] ((w.alloc (.cells #[.slice none 0 0] 29)).alloc (.cells #[.int .i64 x] 3)) fun e w' => e = .returned (.tuple #[]) ∧
      ∃ v', At w' w.heap.size 29 #[v'] ∧ Owns w' base 5 v' (enc x) ∧ Wgrew w w.heap.size (.slice none 0 0) w' v' := by
  have h := wint_one w.heap.size base (.slice none 0 0) [] x (w.alloc (.cells #[.slice none 0 0] 29)) (At.fresh _ _ _) (Owns.nil _ _ _) (by simp; omega) hI (by simp)
  rw [show (w.alloc (.cells #[.slice none 0 0] 29)).heap.size = w.heap.size + 1 by simp] at h
  refine h.mono ?_
  rintro e w' ⟨rfl, v', h1, h2, h3⟩
  exact ⟨rfl, v', h1, h2, h3.alloc_l⟩

set_option maxHeartbeats 400000 in
theorem alive_any (w : World) : Calls Try.prog 8 #[] w fun e w' => e = .returned (.bool true) ∧ Below w.heap.size w w' := by
  go_enter Try.func8, Try.ntmps8
  go_wp2_with fail
  refine (wint_any w.heap.size w.heap.size (.slice none 0 0) [] _ 3 3 [0, -1, 64] _ ((At.fresh _ _ _).alloc _) (Owns.nil _ _ _) (by simp; omega) (Nums.new1 _ _ _ [0, -1, 64]) ?c1 ?c2 (by simp)).mono ?_
  case c1 => intro _ c o h; simp at h; simp [Value.ownBlock]; omega
  case c2 => intro m hm; simp at hm; unfold I64; omega
  rintro e w1 ⟨rfl, v1, hb1, ho1, hg1⟩
  rw [encs_alive] at ho1
  have hbel : Below w.heap.size w w1 := (((Below.refl _ _).alloc (Nat.le_refl _) _).alloc (by simp) _).trans (hg1.below (by simp; omega) (by omega) (by simp [Value.ownBlock]))
  go_wp2_with fail
  refine (wbytes_any w.heap.size w.heap.size v1 _ _ hb1 ho1).mono ?_
  rintro e w2 ⟨rfl, rfl⟩
  go_wp2_with fail
  refine (open_any [] _).mono ?_
  rintro e w2 ⟨rfl, hr2, hg2⟩
  go_wp2_with fail
  refine (end_any _ _ _ _ hr2).mono ?_
  rintro e w3 ⟨rfl, rfl⟩
  go_wp2
  go_ret
  exact ⟨rfl, hbel.grown hg2 hbel.size (by simp)⟩
end Go.Proofs.Ytlheijpfmihhaaa
