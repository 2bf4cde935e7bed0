/- Words for memory of my own: one byte, just laid, appended to bytes that a slice owns. No program is named here. -/
import Derived.Test.YtapkihcgnhofmaaGreatDoorQMem
namespace Go.Proofs.YtapkihcgnhofmaaGreatDoor
open Go.RowKit

theorem wpList_append_byte {P : Program} (w : World) {ops : Array Oper} {rest : List Oper} {o : Oper} {a : Act} {Q : Exit → Act → World → Prop} (hgd : o.guard = none) (s x : Operand) (t e : TypeId)
    (ho : o.op = .call { callee := .builtin .append, args := #[s, x], argTypes := #[t, t] }) (base : Nat) (ht : P.underlying t = some (.slice e))
    (hi : (P.info? e).map (fun i => (i.zero, i.size, i.bytes)) = some (some (.int .u8 0), 1, 1)) (v : Value) (xs : List UInt8) (b : UInt8) (z : Int) (hz : z = (b.toNat : Int)) (hs : a.eval s = v)
    (hown : Owns w base e v xs) (hx : a.eval x = .slice (some ⟨w.heap.size, 0, none⟩) 1 1) (hlen : xs.length ≤ 1000000000) (hbase : base ≤ w.heap.size)
    (h : ∀ g cap w', Owns w' base e (.slice (some ⟨g, 0, none⟩) (xs.length + 1) cap) (xs ++ [b]) → Grew w v w' (.slice (some ⟨g, 0, none⟩) (xs.length + 1) cap) → wpList P ops Q rest (a.put o.dst (.slice (some ⟨g, 0, none⟩) (xs.length + 1) cap)) w') :
    wpList P ops Q (o :: rest) a (w.alloc (.cells #[.int .u8 z] e)) := by
  subst hz
  obtain ⟨i0, hi0, hz0, hz1, hz2⟩ := info_parts hi
  have hown' : w.ownsRow base e 1 v xs.length (Lib.byteCells xs) := hown
  refine wpList_append_lies _ hgd s x t ho base e i0 (.int .u8 0) 1 1 ht hi0 hz0 hz1 hz2 rfl (by omega) v xs.length (Lib.byteCells xs) hs (hown'.alloc _) ⟨w.heap.size, 0, none⟩ 1 1 [.int .u8 (b.toNat : Int)] hx rfl ?_ ?_ (by omega) (by unfold maxLen; omega) (by omega) (by simp; omega) _ rfl ?_
  · intro j u hj
    match j, hj with
    | 0, hj => simp at hj; subst hj; simp [Addr.add]
  · intro u hu; simp at hu; subst hu; rfl
  · intro g cap w' ho' hg hat hlt
    refine h g cap w' ?_ ((Grew.alloc _ _ _).trans (Grew.append hg (by simpa using hat)))
    have hs := owns_snoc (a := b.toNat) (b := (b.toNat : Int)) b.toNat_lt rfl ho'
    simpa using hs
/-- What is owned, elsewhere, over a growth. -/
theorem Grew.cell {w w' : World} {v v' : Value} (h : Grew w v w' v') {p : Addr} (hp : p.block < w.heap.size) (hne : v.ownBlock ≠ some p.block) : w'.cell? p = w.cell? p :=
  World.cell?_of_block (w := w) (h.grown.block p.block hp (fun e => hne e.symm))
theorem Grew.below {w w' : World} {v v' : Value} {B : Nat} (h : Grew w v w' v') (hB : B ≤ w.heap.size) (hv : ∀ g, v.ownBlock = some g → B ≤ g) : Below B w w' :=
  (Below.refl B w).grown h.grown hB hv
end Go.Proofs.YtapkihcgnhofmaaGreatDoor
