/- The walk of the laws' function 'alive'. -/
import Derived.Test.YtlkeagfmlcbogaaPackD
namespace Go.Proofs.Ytlkeagfmlcbogaa
open Go.RowKit

theorem enc_small {n : Int} (h0 : 0 ≤ n) (h : n < 64) : enc n = [(2 * n).toNat.toUInt8] := by
  unfold enc Lib.zigzag
  rw [if_pos h0, Lib.uvarint_small (by omega)]
theorem encs_alive : encs [0, -1, 64] = [0, 1, 128, 1] := by
  have h1 : enc 0 = [0] := by rw [enc_small (by omega) (by omega)]; rfl
  have h2 : enc (-1) = [1] := by unfold enc; rw [Lib.uvarint_small (by decide)]; rfl
  have h3 : enc 64 = [128, 1] := by unfold enc; rw [Lib.uvarint_big (by decide), Lib.uvarint_small (by decide)]; rfl
  simp [encs, h1, h2, h3]

/-- A row of numbers that was just laid. -/
theorem Nums.new (w : World) (t : TypeId) (ns : List Int) : Nums (w.alloc (.cells (ns.map (Value.int .i64)).toArray t)) (some ⟨w.heap.size, 0, none⟩) ns.length ns := by
  refine ⟨rfl, fun _ => ⟨w.heap.size, 0, rfl, by simp, fun j hj => ?_⟩⟩
  rw [At.cell (At.fresh w t _) (0 + j)]
  simp [hj]

theorem Nums.new1 (w : World) (o : Obj) (t : TypeId) (ns : List Int) : Nums ((w.alloc o).alloc (.cells (ns.map (Value.int .i64)).toArray t)) (some ⟨w.heap.size + 1, 0, none⟩) ns.length ns := by
  have := Nums.new (w.alloc o) t ns
  simpa using this

/-- 'w.Int(x)': the list of one number has just been laid. -/
theorem wint_one (b base : Nat) (v : Value) (xs : List UInt8) (x : Int) (wr : World) (hb : At wr b 52 #[v]) (ho : Owns wr base 5 v xs) (hbase : base ≤ wr.heap.size) (hI : I64 x) (hl : xs.length ≤ 100000000) :
    Calls Try.prog 16 #[.pointer (some ⟨b, 0, none⟩), .slice (some ⟨wr.heap.size, 0, none⟩) 1 1] (wr.alloc (.cells #[.int .i64 x] 3)) fun e w' => e = .returned (.tuple #[]) ∧
      ∃ v', At w' b 52 #[v'] ∧ Owns w' base 5 v' (xs ++ enc x) ∧ Wgrew wr b v w' v' := by
  refine (wint_any b base v xs _ 1 1 [x] _ (hb.alloc _) (World.ownsRow.alloc ho _) (by simp; omega) (Nums.new wr 3 [x]) ?_ (by simpa using hI) (by omega)).mono ?_
  · intro _ c o h
    have hlt := hb.lt
    have hv := ho.lt
    have hc : c = wr.heap.size := by simp at h; exact h.1.symm
    refine ⟨by omega, fun e => ?_⟩
    have := hv c e
    omega
  · rintro e w' ⟨rfl, v', h1, h2, h3⟩
    refine ⟨rfl, v', h1, ?_, h3.alloc_l⟩
    simpa [encs] using h2
/-- 'x := &Writer{}; x.Int(n)'. -/
theorem wint_new (base : Nat) (x : Int) (w : World) (hbase : base ≤ w.heap.size) (hI : I64 x) :
    Calls Try.prog 16 #[.pointer (some ⟨w.heap.size, 0, none⟩), .slice (some ⟨w.heap.size + 1, 0, none⟩) 1 1] ((w.alloc (.cells #[.slice none 0 0] 52)).alloc (.cells #[.int .i64 x] 3)) fun e w' => e = .returned (.tuple #[]) ∧
      ∃ v', At w' w.heap.size 52 #[v'] ∧ Owns w' base 5 v' (enc x) ∧ Wgrew w w.heap.size (.slice none 0 0) w' v' := by
  have h := wint_one w.heap.size base (.slice none 0 0) [] x (w.alloc (.cells #[.slice none 0 0] 52)) (At.fresh _ _ _) (Owns.nil _ _ _) (by simp; omega) hI (by simp)
  rw [show (w.alloc (.cells #[.slice none 0 0] 52)).heap.size = w.heap.size + 1 by simp] at h
  refine h.mono ?_
  rintro e w' ⟨rfl, v', h1, h2, h3⟩
  exact ⟨rfl, v', h1, h2, h3.alloc_l⟩

end Go.Proofs.Ytlkeagfmlcbogaa
