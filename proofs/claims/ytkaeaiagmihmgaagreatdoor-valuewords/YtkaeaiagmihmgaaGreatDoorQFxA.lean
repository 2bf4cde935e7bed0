/- A float's text out of its digits; bytes appended from a row of bytes. No program is named here. -/
/- One more taken. -/
import Derived.Test.YtkaeaiagmihmgaaGreatDoorQInfo
namespace Go.Proofs.YtkaeaiagmihmgaaGreatDoor
open Go.RowKit

/-- An exponent's digits. -/
def expTail (x : Nat) : List UInt8 := if x < 10 then [48, (48 + x).toUInt8] else if x < 100 then [(48 + x / 10).toUInt8, (48 + x % 10).toUInt8] else [(48 + x / 100).toUInt8, (48 + x / 10 % 10).toUInt8, (48 + x % 10).toUInt8]
/-- One digit, the others behind a point, the exponent. -/
def textE (ds : List UInt8) (dp : Int) : List UInt8 :=
  (ds.getD 0 0 :: (if 1 < ds.length then 46 :: ds.drop 1 else [])) ++ (101 :: (if dp < 1 then 45 else 43) :: expTail (dp - 1).natAbs)
/-- No exponent. -/
def textF (ds : List UInt8) (dp : Int) : List UInt8 :=
  if 0 < dp then ds.take dp.toNat ++ (List.replicate (dp.toNat - ds.length) 48 ++ (if dp.toNat < ds.length then 46 :: ds.drop dp.toNat else []))
  else 48 :: 46 :: (List.replicate (-dp).toNat 48 ++ ds)
def textD (neg : Bool) (ds : List UInt8) (dp : Int) : List UInt8 :=
  (if neg then [45] else []) ++ (if dp < -3 ∨ 7 ≤ dp then textE ds dp else textF ds dp)

/-- The cells from (g, off) on are the bytes bs. -/
def Bytes (w : World) (g off : Nat) (bs : List UInt8) : Prop := ∀ j, j < bs.length → w.cell? ⟨g, off + j, none⟩ = some (.int .u8 (((bs.getD j 0).toNat : Nat) : Int))
theorem Bytes.drop {w : World} {g off : Nat} {bs : List UInt8} (h : Bytes w g off bs) (k : Nat) : Bytes w g (off + k) (bs.drop k) := fun j hj => by
  rw [List.length_drop] at hj
  have := h (k + j) (by omega)
  rw [Nat.add_assoc, this]
  congr 4
  simp [List.getD_eq_getElem?_getD]
theorem Bytes.take {w : World} {g off : Nat} {bs : List UInt8} (h : Bytes w g off bs) (k : Nat) : Bytes w g off (bs.take k) := fun j hj => by
  rw [List.length_take] at hj
  rw [h j (by omega)]
  congr 4
  rw [List.getD_eq_getElem?_getD, List.getD_eq_getElem?_getD, List.getElem?_take, if_pos (by omega)]
theorem Bytes.keep {w w' : World} {g off : Nat} {bs : List UInt8} (h : Bytes w g off bs) (k : ∀ o, w'.cell? ⟨g, o, none⟩ = w.cell? ⟨g, o, none⟩) : Bytes w' g off bs := fun j hj => (k _).trans (h j hj)
theorem Bytes.grew {w w' : World} {g off : Nat} {bs : List UInt8} {v v' : Value} (h : Bytes w g off bs) (hg : g < w.heap.size) (hr : Grew w v w' v') (hne : v.ownBlock ≠ some g) : Bytes w' g off bs :=
  h.keep fun o => hr.cell (p := ⟨g, o, none⟩) hg hne
/-- The block just laid. -/
theorem Bytes.fresh (w : World) (e : TypeId) (cs : Array Value) (bs : List UInt8) (h : cs.toList = Lib.byteCells bs) : Bytes (w.alloc (.cells cs e)) w.heap.size 0 bs := fun j hj => by
  rw [Nat.zero_add, At.cell (At.fresh w e cs) j, ← Array.getElem?_toList, h]
  unfold Lib.byteCells
  rw [List.getElem?_map, List.getElem?_eq_getElem hj, List.getD_eq_getElem?_getD, List.getElem?_eq_getElem hj]
  rfl

theorem wpList_append_from {P : Program} (w : World) {ops : Array Oper} {rest : List Oper} {o : Oper} {a : Act} {Q : Exit → Act → World → Prop} (hgd : o.guard = none) (s x : Operand) (t e : TypeId)
    (ho : o.op = .call { callee := .builtin .append, args := #[s, x], argTypes := #[t, t] }) (base : Nat) (ht : P.underlying t = some (.slice e))
    (hi : (P.info? e).map (fun i => (i.zero, i.size, i.bytes)) = some (some (.int .u8 0), 1, 1)) (v : Value) (xs bs : List UInt8) (hs : a.eval s = v)
    (hown : Owns w base e v xs) (g off n cap : Nat) (hx : a.eval x = .slice (some ⟨g, off, none⟩) n cap) (hn : bs.length = n) (h0 : 0 < n) (hb : Bytes w g off bs) (hlen : xs.length + n ≤ 1000000000) (hbase : base ≤ w.heap.size)
    (h : ∀ g' cap' w', Owns w' base e (.slice (some ⟨g', 0, none⟩) (xs.length + n) cap') (xs ++ bs) → Grew w v w' (.slice (some ⟨g', 0, none⟩) (xs.length + n) cap') → wpList P ops Q rest (a.put o.dst (.slice (some ⟨g', 0, none⟩) (xs.length + n) cap')) w') :
    wpList P ops Q (o :: rest) a w := by
  obtain ⟨i0, hi0, hz0, hz1, hz2⟩ := info_parts hi
  have hown' : w.ownsRow base e 1 v xs.length (Lib.byteCells xs) := hown
  refine wpList_append_lies _ hgd s x t ho base e i0 (.int .u8 0) 1 1 ht hi0 hz0 hz1 hz2 rfl (by omega) v xs.length (Lib.byteCells xs) hs hown' ⟨g, off, none⟩ n cap (Lib.byteCells bs) hx (by rw [Lib.byteCells_length, hn, Nat.mul_one]) ?_ ?_ h0 (by unfold maxLen; omega) (by omega) hbase _ rfl ?_
  · intro j u hj
    have hjl : j < bs.length := by
      have := (List.getElem?_eq_some_iff.1 hj).1
      rwa [Lib.byteCells_length] at this
    have e2 : (⟨g, off, none⟩ : Addr).add j = ⟨g, off + j, none⟩ := by unfold Addr.add; split <;> simp_all
    rw [e2, hb j hjl, ← hj]
    unfold Lib.byteCells
    rw [List.getElem?_map, List.getElem?_eq_getElem hjl, List.getD_eq_getElem?_getD, List.getElem?_eq_getElem hjl]
    rfl
  · intro u hu
    obtain ⟨b, _, rfl⟩ := List.mem_map.1 hu
    rfl
  · intro g' cap' w' ho' hg hat hlt
    refine h g' cap' w' ?_ (Grew.append hg (by simpa using hat))
    unfold Owns
    rw [List.length_append, hn, Lib.byteCells_append]
    exact ho'
theorem byte2 (a b : Nat) (x y : Int) (hx : x = (a : Int)) (hy : y = (b : Int)) (ha : a < 256) (hb : b < 256) : #[Value.int .u8 x, .int .u8 y].toList = Lib.byteCells [a.toUInt8, b.toUInt8] := by
  subst hx; subst hy
  simp only [Lib.byteCells, List.map_cons, List.map_nil, Lib.toUInt8_toNat ha, Lib.toUInt8_toNat hb]
theorem byte3 (a b c : Nat) (x y z : Int) (hx : x = (a : Int)) (hy : y = (b : Int)) (hz : z = (c : Int)) (ha : a < 256) (hb : b < 256) (hc : c < 256) : #[Value.int .u8 x, .int .u8 y, .int .u8 z].toList = Lib.byteCells [a.toUInt8, b.toUInt8, c.toUInt8] := by
  subst hx; subst hy; subst hz
  simp only [Lib.byteCells, List.map_cons, List.map_nil, Lib.toUInt8_toNat ha, Lib.toUInt8_toNat hb, Lib.toUInt8_toNat hc]
end Go.Proofs.YtkaeaiagmihmgaaGreatDoor

namespace Go.Proofs.YtkaeaiagmihmgaaGreatDoor
theorem take_more (l : List UInt8) (k : Nat) (h : k < l.length) : l.take (k + 1) = l.take k ++ [l.getD k 0] := by
  rw [List.take_succ_eq_append_getElem h, List.getD_eq_getElem?_getD, List.getElem?_eq_getElem h]
  rfl
end Go.Proofs.YtkaeaiagmihmgaaGreatDoor
