/- Words for memory of my own: bytes that a slice owns, how a slice and its world grow; numbers of 64 bits. No program is named here. -/
import Derived.Below
import Derived.Deep.AppendLies
import Derived.Lib.UnsafeStr
import Derived.Lib.Varint
import Derived.Lib.Zigzag
import Derived.Lib.VarintMem
import Derived.Deep.Draws
import Derived.Laws.Wrap64
import Derived.Laws.IdiomStrings
import Derived.Lib.BufferRead
namespace Go.Proofs.Yteehccklnidofaa
open Go.RowKit

def I64 (n : Int) : Prop := -9223372036854775808 ≤ n ∧ n ≤ 9223372036854775807
def U64 (n : Nat) : Prop := n < 18446744073709551616

theorem ret_int {k : IntKind} {a b : Int} (h : a = b) : Ending.returned (.int k a) = .returned (.int k b) := by rw [h]

/-- The slice value v owns just the bytes xs (of element type e), in a row from block 'base' on. -/
def Owns (w : World) (base : Nat) (e : TypeId) (v : Value) (xs : List UInt8) : Prop := w.ownsRow base e 1 v xs.length (Lib.byteCells xs)

/-- From (w, v) to (w', v'): nothing that was there has turned but v's own row; v' lies in that row or in a new one. -/
structure Grew (w : World) (v : Value) (w' : World) (v' : Value) : Prop where
  grown : w.grownBy w' v.ownBlock
  lies : ∀ g, v'.ownBlock = some g → v.ownBlock = some g ∨ w.heap.size ≤ g

theorem Grew.refl (w : World) (v : Value) : Grew w v w v := ⟨World.grownBy.refl w _, fun _ h => .inl h⟩

theorem Grew.trans {a b c : World} {u v x : Value} (h : Grew a u b v) (k : Grew b v c x) : Grew a u c x := by
  refine ⟨⟨k.grown.os.trans h.grown.os, k.grown.tape.trans h.grown.tape, k.grown.output.trans h.grown.output, Nat.le_trans h.grown.size k.grown.size, fun i hi hne => ?_⟩, fun g hg => ?_⟩
  · refine (k.grown.block i (Nat.lt_of_lt_of_le hi h.grown.size) ?_).trans (h.grown.block i hi hne)
    intro e
    rcases h.lies i e.symm with e' | e'
    · exact hne e'.symm
    · omega
  · rcases k.lies g hg with e | e
    · exact h.lies g e
    · exact .inr (Nat.le_trans h.grown.size e)

theorem Grew.alloc (w : World) (v : Value) (o : Obj) : Grew w v (w.alloc o) v := ⟨World.grownBy_alloc w o _, fun _ h => .inl h⟩

/-- Behind 'wpList_append_lies'. -/
theorem Grew.append {w w' : World} {v : Value} {g n cap : Nat} (hg : w.grownBy w' v.ownBlock) (hat : v.ownBlock = some g ∨ g = w.heap.size) :
    Grew w v w' (.slice (some ⟨g, 0, none⟩) n cap) := by
  refine ⟨hg, fun k hk => ?_⟩
  have : g = k := by simpa [Value.ownBlock] using hk
  subst this
  rcases hat with h | h
  · exact .inl h
  · exact .inr (by omega)

theorem Owns.nil (w : World) (base : Nat) (e : TypeId) : Owns w base e (.slice none 0 0) [] := World.ownsRow_nil w base e 1
theorem Owns.len {w : World} {base : Nat} {e : TypeId} {v : Value} {xs : List UInt8} (h : Owns w base e v xs) : (∃ a c, v = .slice a xs.length c) := by
  rcases h.2 with ⟨rfl, h0⟩ | ⟨g, cap, _, rfl, _⟩
  · exact ⟨none, 0, by rw [h0]⟩
  · exact ⟨_, _, rfl⟩

/-- A number's bytes. -/
def enc (n : Int) : List UInt8 := Lib.uvarint (Lib.zigzag n)
def encs (ns : List Int) : List UInt8 := (ns.map enc).flatten

def encS (s : List UInt8) : List UInt8 := enc s.length ++ s
def encSs (ss : List (List UInt8)) : List UInt8 := (ss.map encS).flatten
def encB (b : Bool) : List UInt8 := enc (if b then 1 else 0)
def encBs (bs : List Bool) : List UInt8 := (bs.map encB).flatten

theorem uvarint_len {n : Nat} (h : U64 n) : (Lib.uvarint n).length ≤ 10 := Lib.uvarint_length64 h

theorem and127_u64 (u : Nat) (h : U64 u) : bits .and .u64 (u : Int) 127 = (u : Int) % 128 := by
  have h' : (u : Int) < 2 ^ 64 := by unfold U64 at h; omega
  have := bits_mask .u64 64 (by decide) wraps_u64 7 (by decide) (u : Int) (by omega) h'
  simpa using this
/-- 'byte(u&groupMask) | moreFlag'. -/
theorem more_byte (u : Nat) (h : U64 u) : bits .or .u8 (bits .and .u64 (u : Int) 127 % 256) 128 = (u : Int) % 128 + 128 := by
  rw [and127_u64 u h, Lib.u8_or128_any _ (by omega) (by omega)]
  omega
theorem owns_snoc {w : World} {base : Nat} {e : TypeId} {v : Value} {ys : List UInt8} {a : Nat} (ha : a < 256) {b : Int} (hb : b = (a : Int))
    (h : w.ownsRow base e 1 v (ys.length + 1) (Lib.byteCells ys ++ [Value.int .u8 b])) : Owns w base e v (ys ++ [a.toUInt8]) := by
  unfold Owns
  rw [List.length_append, Lib.byteCells_snoc ys ha, ← hb]
  exact h

/-- The number whose zigzag code is u. -/
def unzig (u : Nat) : Int := if u % 2 = 1 then -((u / 2 : Nat) : Int) - 1 else ((u / 2 : Nat) : Int)
theorem half_wrap (u : Nat) (h : U64 u) : wrap64 ((u : Int) / 2) = ((u / 2 : Nat) : Int) := by
  unfold U64 at h
  unfold wrap64
  omega
theorem unzig_odd (u : Nat) (h : U64 u) (hn : ((u : Int) % 2 == 1) = true) : bits .xor .i64 (-1) (wrap64 ((u : Int) / 2)) = unzig u := by
  have hn' : (u : Int) % 2 = 1 := by simpa using hn
  unfold unzig
  rw [half_wrap u h, Lib.i64_not _ (by unfold U64 at h; omega), if_pos (by omega)]
theorem unzig_even (u : Nat) (h : U64 u) (hn : ¬ ((u : Int) % 2 == 1) = true) : wrap64 ((u : Int) / 2) = unzig u := by
  have hn' : ¬ (u : Int) % 2 = 1 := by simpa using hn
  unfold unzig
  rw [half_wrap u h, if_neg (by omega)]
theorem unzig_zigzag (n : Int) : unzig (Lib.zigzag n) = n := by unfold unzig Lib.zigzag; split <;> split <;> omega
theorem zigzag_unzig (u : Nat) : Lib.zigzag (unzig u) = u := by unfold unzig Lib.zigzag; split <;> split <;> omega
theorem unzig_i64 (u : Nat) (h : U64 u) : I64 (unzig u) := by unfold unzig I64; unfold U64 at h; split <;> omega

theorem extract_drop (l : List UInt8) (k : Nat) : (ByteArray.mk l.toArray).extract k l.length = ⟨(l.drop k).toArray⟩ := by
  apply ByteArray.ext
  rw [ByteArray.data_extract]
  simp
  exact List.take_of_length_le (by simp)
theorem extract_take (l : List UInt8) (k : Nat) : (ByteArray.mk l.toArray).extract 0 k = ⟨(l.take k).toArray⟩ := by
  apply ByteArray.ext
  rw [ByteArray.data_extract]
  simp

theorem extract_mid (l : List UInt8) (q n : Nat) : (ByteArray.mk l.toArray).extract q (q + n) = ⟨((l.drop q).take n).toArray⟩ := by
  apply ByteArray.ext
  rw [ByteArray.data_extract]
  simp

/-- The heap's block number g: the cells cs of element type t, free to be written. -/
def At (w : World) (g : Nat) (t : TypeId) (cs : Array Value) : Prop := w.heap[g]? = some (.cells cs t (0, 0))
section
variable {w w' : World} {g : Nat} {t : TypeId} {cs : Array Value}
theorem At.lt (h : At w g t cs) : g < w.heap.size := (Array.getElem?_eq_some_iff.1 h).1
theorem At.cell (h : At w g t cs) (i : Nat) : w.cell? ⟨g, i, none⟩ = cs[i]? := cell_of_row w g i cs t (0, 0) h
theorem At.unfrozen (h : At w g t cs) (i : Nat) : w.frozen? ⟨g, i, none⟩ = false := by
  have e : w.heap[g]? = some (.cells cs t (0, 0)) := h
  simp [World.frozen?, e]
theorem At.fresh (w : World) (t : TypeId) (cs : Array Value) : At (w.alloc (.cells cs t)) w.heap.size t cs := heap_alloc_new w _
/-- Whatever leaves block g alone. -/
theorem At.keep (h : At w g t cs) (e : w'.heap[g]? = w.heap[g]?) : At w' g t cs := e.trans h
theorem At.alloc (h : At w g t cs) (o : Obj) : At (w.alloc o) g t cs := h.keep (Below.heap_alloc w o g h.lt)
theorem At.put (h : At w g t cs) (i : Nat) (u : Value) : At (w.setCell ⟨g, i, none⟩ u) g t (cs.setIfInBounds i u) := by
  have e : w.heap[g]? = some (.cells cs t (0, 0)) := h
  simp [At, World.setCell, Array.getElem?_modify, e]
theorem At.elsewhere (h : At w g t cs) {p : Addr} (hp : g ≠ p.block) (u : Value) : At (w.setCell p u) g t cs := h.keep (Below.heap_setCell w p u g hp)
theorem At.below {B : Nat} (h : At w g t cs) (hb : Below B w w') (hg : g < B) : At w' g t cs := h.keep (hb.block g hg)
theorem At.grown {row : Option Nat} (h : At w g t cs) (hb : w.grownBy w' row) (hg : some g ≠ row) : At w' g t cs := h.keep (hb.block g h.lt hg)
/-- A block has one element type. -/
theorem At.type_eq {t' : TypeId} {cs' : Array Value} {m : Nat × Nat} (h : At w g t cs) (h' : w.heap[g]? = some (.cells cs' t' m)) : t = t' := by
  have := Option.some.inj (Eq.trans (Eq.symm h) h')
  injection this
end
/-- From (w, v) to (w', v'), v lying in block b: nothing that was there has turned but block b and v's own row; v' lies in that row or in a new one. -/
structure Wgrew (w : World) (b : Nat) (v : Value) (w' : World) (v' : Value) : Prop where
  os : w'.os = w.os
  tape : w'.tape = w.tape
  output : w'.output = w.output
  size : w.heap.size ≤ w'.heap.size
  block : ∀ k, k < w.heap.size → k ≠ b → some k ≠ v.ownBlock → w'.heap[k]? = w.heap[k]?
  lies : ∀ g, v'.ownBlock = some g → v.ownBlock = some g ∨ w.heap.size ≤ g
theorem Wgrew.refl (w : World) (b : Nat) (v : Value) : Wgrew w b v w v := ⟨rfl, rfl, rfl, Nat.le_refl _, fun _ _ _ _ => rfl, fun _ h => .inl h⟩
theorem Wgrew.trans {x y z : World} {b : Nat} {u v t : Value} (h : Wgrew x b u y v) (k : Wgrew y b v z t) : Wgrew x b u z t := by
  refine ⟨k.os.trans h.os, k.tape.trans h.tape, k.output.trans h.output, Nat.le_trans h.size k.size, fun i hi hne hne2 => ?_, fun g hg => ?_⟩
  · refine (k.block i (Nat.lt_of_lt_of_le hi h.size) hne ?_).trans (h.block i hi hne hne2)
    intro e
    rcases h.lies i e.symm with e' | e'
    · exact hne2 e'.symm
    · omega
  · rcases k.lies g hg with e | e
    · exact h.lies g e
    · exact .inr (Nat.le_trans h.size e)
/-- A row grew, and the new value was stored in block b. -/
theorem Wgrew.step {w w' : World} {v v' : Value} (h : Grew w v w' v') (b : Nat) : Wgrew w b v (w'.setCell ⟨b, 0, none⟩ v') v' := by
  refine ⟨h.grown.os, h.grown.tape, h.grown.output, by simpa [World.setCell] using h.grown.size, fun k hk hne hne2 => ?_, h.lies⟩
  exact (Below.heap_setCell _ _ _ _ hne).trans (h.grown.block k hk hne2)
theorem Wgrew.alloc_l {w w' : World} {b : Nat} {v v' : Value} {o : Obj} (h : Wgrew (w.alloc o) b v w' v') : Wgrew w b v w' v' := by
  have hs : (w.alloc o).heap.size = w.heap.size + 1 := by simp
  refine ⟨h.os, h.tape, h.output, by have := h.size; omega, fun k hk hne hne2 => ?_, fun g hg => ?_⟩
  · exact (h.block k (by omega) hne hne2).trans (Below.heap_alloc _ _ _ hk)
  · rcases h.lies g hg with e | e
    · exact .inl e
    · exact .inr (by omega)
theorem Wgrew.at_ {w w' : World} {b g : Nat} {v v' : Value} {t : TypeId} {cs : Array Value} (h : Wgrew w b v w' v') (hg : At w g t cs) (hne : g ≠ b) (hne2 : v.ownBlock ≠ some g) : At w' g t cs :=
  (h.block g hg.lt hne (fun e => hne2 e.symm)).trans hg
theorem Wgrew.cell {w w' : World} {b : Nat} {v v' : Value} (h : Wgrew w b v w' v') {p : Addr} (hp : p.block < w.heap.size) (hne : p.block ≠ b) (hne2 : v.ownBlock ≠ some p.block) : w'.cell? p = w.cell? p :=
  World.cell?_of_block (h.block p.block hp hne (fun e => hne2 e.symm))
/-- What another value owns stays owned. -/
theorem Wgrew.owns {w w' : World} {b base : Nat} {v v' x : Value} {e : TypeId} {xs : List UInt8} (h : Wgrew w b v w' v') (ho : Owns w base e x xs) (hb : x.ownBlock ≠ some b) (hv : x.ownBlock = none ∨ x.ownBlock ≠ v.ownBlock) : Owns w' base e x xs := by
  refine ⟨ho.1, ?_⟩
  rcases ho.2 with hn | ⟨g, cap, cur, rfl, hb2, hgg, rest⟩
  · exact .inl hn
  · refine .inr ⟨g, cap, cur, rfl, hb2, ?_, rest⟩
    rw [h.block g (Array.getElem?_eq_some_iff.1 hgg).1 (fun e => hb (by rw [← e]; rfl)) (by simpa [Value.ownBlock] using hv)]
    exact hgg
theorem Wgrew.owns_nil {w w' : World} {b base : Nat} {v' x : Value} {e : TypeId} {xs : List UInt8} (h : Wgrew w b (.slice none 0 0) w' v') (ho : Owns w base e x xs) (hb : x.ownBlock ≠ some b) : Owns w' base e x xs :=
  h.owns ho hb (by cases hx : x.ownBlock <;> simp [Value.ownBlock])
theorem Wgrew.below {w w' : World} {b B : Nat} {v v' : Value} (h : Wgrew w b v w' v') (hB : B ≤ w.heap.size) (hb : B ≤ b) (hv : ∀ g, v.ownBlock = some g → B ≤ g) : Below B w w' :=
  ⟨h.os, h.tape, h.output, h.size, fun k hk => h.block k (by omega) (by omega) (fun e => by have := hv k e.symm; omega)⟩
/-- Rows of different element types differ. -/
theorem owns_apart {w : World} {base g : Nat} {e t : TypeId} {v : Value} {xs : List UInt8} {cs : Array Value} (h : Owns w base e v xs) (hg : At w g t cs) (hne : e ≠ t) : v.ownBlock ≠ some g := by
  rcases h.2 with ⟨rfl, _⟩ | ⟨g', cap, cur, rfl, _, hh, _⟩
  · intro h; simp [Value.ownBlock] at h
  · intro he
    obtain rfl : g' = g := Option.some.inj he
    exact hne (hg.type_eq hh).symm
theorem Owns.below {w w' : World} {base B : Nat} {e : TypeId} {v : Value} {xs : List UInt8} (h : Owns w base e v xs) (hb : Below B w w') (hB : ∀ g, v.ownBlock = some g → g < B) : Owns w' base e v xs := by
  refine ⟨h.1, ?_⟩
  rcases h.2 with hn | ⟨g, cap, cur, rfl, hb2, hgg, rest⟩
  · exact .inl hn
  · exact .inr ⟨g, cap, cur, rfl, hb2, (hb.block g (hB g rfl)).trans hgg, rest⟩
theorem Owns.lt {w : World} {base : Nat} {e : TypeId} {v : Value} {xs : List UInt8} (h : Owns w base e v xs) : ∀ g, v.ownBlock = some g → base ≤ g ∧ g < w.heap.size := World.ownsRow.lt h

theorem Owns.far {w : World} {base : Nat} {e : TypeId} {v : Value} {xs : List UInt8} (h : Owns w base e v xs) {p : Addr} (hne : v.ownBlock ≠ some p.block) (u : Value) : Owns (w.setCell p u) base e v xs := by
  refine ⟨h.1, ?_⟩
  rcases h.2 with hn | ⟨g, cap, cur, rfl, hb2, hgg, rest⟩
  · exact .inl hn
  · exact .inr ⟨g, cap, cur, rfl, hb2, (Below.heap_setCell _ _ _ _ (fun e => hne (by rw [← e]; rfl))).trans hgg, rest⟩
/-- 'string(b)' of bytes that are owned. -/
theorem run_bytes_owned {P : Program} {w : World} {base : Nat} {v : Value} {xs : List UInt8} (src dst e : TypeId) (hs : P.underlying src = some (.slice e)) (he : P.underlying e = some (.int .u8)) (hd : P.underlying dst = some .string)
    (h : Owns w base e v xs) : (convert src dst v).run P w = .ok (.string ⟨xs.toArray⟩) w := by
  rcases h.2 with ⟨rfl, h0⟩ | ⟨g, cap, cur, rfl, _, hg, _, _, _, htk⟩
  · have : xs = [] := List.eq_nil_of_length_eq_zero h0
    subst this
    exact Lib.run_convert_nil_bytes w src dst e 0 hs he hd
  · rw [Nat.mul_one] at htk
    exact run_convert_bytes_back w src dst e _ _ xs hs he hd (Lib.bytes_of_row hg htk)

/-- 'string([]byte{b})', the one byte just laid. -/
theorem conv_one {P : Program} (w : World) (src dst e : TypeId) (hs : P.underlying src = some (.slice e)) (he : P.underlying e = some (.int .u8)) (hd : P.underlying dst = some .string) (a : Nat) (ha : a < 256) (b : Int) (hb : b = (a : Int)) :
    (convert src dst (.slice (some ⟨w.heap.size, 0, none⟩) 1 1)).run P (w.alloc (.cells #[.int .u8 b] e)) = .ok (.string ⟨[a.toUInt8].toArray⟩) (w.alloc (.cells #[.int .u8 b] e)) := by
  refine run_bytes_owned (base := 0) src dst e hs he hd ⟨rfl, .inr ⟨w.heap.size, 1, #[.int .u8 b], rfl, by omega, heap_alloc_new w _, by simp, by unfold maxLen; omega, rfl, ?_⟩⟩
  subst hb
  simp only [Lib.byteCells, List.map_cons, List.map_nil, Lib.toUInt8_toNat ha]
  rfl

/-- The slice '.slice A n _' reads as the numbers ns. -/
def Nums (w : World) (A : Option Addr) (n : Nat) (ns : List Int) : Prop :=
  ns.length = n ∧ (0 < n → ∃ b off, A = some ⟨b, off, none⟩ ∧ b < w.heap.size ∧ ∀ j, j < n → w.cell? ⟨b, off + j, none⟩ = some (.int .i64 (ns.getD j 0)))

theorem grownBy_set (w : World) (b i : Nat) (u : Value) : w.grownBy (w.setCell ⟨b, i, none⟩ u) (some b) :=
  ⟨rfl, rfl, rfl, by simp [World.setCell], fun k _ hne => Below.heap_setCell _ _ _ _ (fun e => hne (by rw [e]))⟩
theorem grownBy_tr {a b c : World} {row : Option Nat} (h : a.grownBy b row) (k : b.grownBy c row) : a.grownBy c row :=
  ⟨k.os.trans h.os, k.tape.trans h.tape, k.output.trans h.output, Nat.le_trans h.size k.size, fun i hi hne => (k.block i (Nat.lt_of_lt_of_le hi h.size) hne).trans (h.block i hi hne)⟩
theorem run_index_list {P : Program} (t : TypeId) (l : List UInt8) (i : Int) (k : Nat) (b : Nat) (h : P.underlying t = some .string) (hi : i = (k : Int)) (hk : k < l.length) (hb : (l.getD k 0).toNat = b) (w : World) :
    (Instr.index t (.string ⟨l.toArray⟩) (.int .i64 i)).run P w = .ok (.int .u8 b) w := by
  subst hi
  rw [run_index_string w t _ .i64 _ h]
  have hk' : k < (ByteArray.mk l.toArray).size := by simpa [ByteArray.size] using hk
  rw [dif_pos ⟨by omega, by omega⟩]
  have e : ((ByteArray.mk l.toArray)[((k : Nat) : Int).toNat]'(by simpa using hk')) = l.getD k 0 := by
    simp only [Int.toNat_natCast]
    rw [List.getD_eq_getElem?_getD, List.getElem?_eq_getElem hk]
    rfl
  rw [e, hb]
end Go.Proofs.Yteehccklnidofaa
