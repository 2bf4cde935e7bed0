/- Words for memory of my own: bytes that a slice owns, how a slice and its world grow; numbers of 64 bits. No program is named here. -/
/- What a byte is, of memory. -/
/- Walks of package pack's leaf functions: toZigzag, fromZigzag, appendNumber. -/
/- The walk of package pack's takeGroups. -/
/- Plain mathematics of package pack's encoding: what was encoded is decoded; a proper beginning of a number's bytes is no number. -/
import Derived.Below
import Derived.Deep.AppendLies
import Derived.Lib.UnsafeStr
import Derived.Lib.Varint
import Derived.Lib.Zigzag
import Derived.Lib.VarintMem
import Derived.Deep.Draws
import Derived.Laws.Wrap64
import Derived.Laws.IdiomStrings
import Derived.Lib.BufferRead
import Derived.Test.YtnhalfdddcjicaaGreatRows
import Derived.WalkKit
import Derived.WalkSpells
import Derived.WalkLawsBesides
import Derived.Lib.Hide
import Derived.Deep.LoopGhost
import Derived.Lib.VarintBits
namespace Go.Proofs.YtnhalfdddcjicaaGreat
open Go.RowKit

def I64 (n : Int) : Prop := -9223372036854775808 ≤ n ∧ n ≤ 9223372036854775807
def U64 (n : Nat) : Prop := n < 18446744073709551616

theorem ret_int {k : IntKind} {a b : Int} (h : a = b) : Ending.returned (.int k a) = .returned (.int k b) := by rw [h]

/-- The slice value v owns just the bytes xs (of element type e), in a row from block 'base' on. -/
def Owns (w : World) (base : Nat) (e : TypeId) (v : Value) (xs : List UInt8) : Prop := w.ownsRow base e 1 v xs.length (Lib.byteCells xs)

/-- From (w, v) to (w', v'): nothing that was there has turned but v's own row; v' lies in that row or in a new one. -/
structure Grew (w : World) (v : Value) (w' : World) (v' : Value) : Prop where
  grown : w.grownBy w' v.ownBlock
  lies : ∀ g, v'.ownBlock = some g → v.ownBlock = some g ∨ w.heap.size ≤ g

theorem Grew.refl (w : World) (v : Value) : Grew w v w v := ⟨World.grownBy.refl w _, fun _ h => .inl h⟩

theorem Grew.trans {a b c : World} {u v x : Value} (h : Grew a u b v) (k : Grew b v c x) : Grew a u c x := by
  refine ⟨⟨k.grown.os.trans h.grown.os, k.grown.tape.trans h.grown.tape, k.grown.output.trans h.grown.output, Nat.le_trans h.grown.size k.grown.size, fun i hi hne => ?_⟩, fun g hg => ?_⟩
  · refine (k.grown.block i (Nat.lt_of_lt_of_le hi h.grown.size) ?_).trans (h.grown.block i hi hne)
    intro e
    rcases h.lies i e.symm with e' | e'
    · exact hne e'.symm
    · omega
  · rcases k.lies g hg with e | e
    · exact h.lies g e
    · exact .inr (Nat.le_trans h.grown.size e)

theorem Grew.alloc (w : World) (v : Value) (o : Obj) : Grew w v (w.alloc o) v := ⟨World.grownBy_alloc w o _, fun _ h => .inl h⟩

/-- Behind 'wpList_append_lies'. -/
theorem Grew.append {w w' : World} {v : Value} {g n cap : Nat} (hg : w.grownBy w' v.ownBlock) (hat : v.ownBlock = some g ∨ g = w.heap.size) :
    Grew w v w' (.slice (some ⟨g, 0, none⟩) n cap) := by
  refine ⟨hg, fun k hk => ?_⟩
  have : g = k := by simpa [Value.ownBlock] using hk
  subst this
  rcases hat with h | h
  · exact .inl h
  · exact .inr (by omega)

theorem Owns.nil (w : World) (base : Nat) (e : TypeId) : Owns w base e (.slice none 0 0) [] := World.ownsRow_nil w base e 1
theorem Owns.len {w : World} {base : Nat} {e : TypeId} {v : Value} {xs : List UInt8} (h : Owns w base e v xs) : (∃ a c, v = .slice a xs.length c) := by
  rcases h.2 with ⟨rfl, h0⟩ | ⟨g, cap, _, rfl, _⟩
  · exact ⟨none, 0, by rw [h0]⟩
  · exact ⟨_, _, rfl⟩

/-- A number's bytes. -/
def enc (n : Int) : List UInt8 := Lib.uvarint (Lib.zigzag n)
def encs (ns : List Int) : List UInt8 := (ns.map enc).flatten

def encS (s : List UInt8) : List UInt8 := enc s.length ++ s
def encSs (ss : List (List UInt8)) : List UInt8 := (ss.map encS).flatten
def encB (b : Bool) : List UInt8 := enc (if b then 1 else 0)
def encBs (bs : List Bool) : List UInt8 := (bs.map encB).flatten

theorem uvarint_len {n : Nat} (h : U64 n) : (Lib.uvarint n).length ≤ 10 := Lib.uvarint_length64 h

theorem and127_u64 (u : Nat) (h : U64 u) : bits .and .u64 (u : Int) 127 = (u : Int) % 128 := by
  have h' : (u : Int) < 2 ^ 64 := by unfold U64 at h; omega
  have := bits_mask .u64 64 (by decide) wraps_u64 7 (by decide) (u : Int) (by omega) h'
  simpa using this
/-- 'byte(u&groupMask) | moreFlag'. -/
theorem more_byte (u : Nat) (h : U64 u) : bits .or .u8 (bits .and .u64 (u : Int) 127 % 256) 128 = (u : Int) % 128 + 128 := by
  rw [and127_u64 u h, Lib.u8_or128_any _ (by omega) (by omega)]
  omega
theorem owns_snoc {w : World} {base : Nat} {e : TypeId} {v : Value} {ys : List UInt8} {a : Nat} (ha : a < 256) {b : Int} (hb : b = (a : Int))
    (h : w.ownsRow base e 1 v (ys.length + 1) (Lib.byteCells ys ++ [Value.int .u8 b])) : Owns w base e v (ys ++ [a.toUInt8]) := by
  unfold Owns
  rw [List.length_append, Lib.byteCells_snoc ys ha, ← hb]
  exact h

/-- The number whose zigzag code is u. -/
def unzig (u : Nat) : Int := if u % 2 = 1 then -((u / 2 : Nat) : Int) - 1 else ((u / 2 : Nat) : Int)
theorem half_wrap (u : Nat) (h : U64 u) : wrap64 ((u : Int) / 2) = ((u / 2 : Nat) : Int) := by
  unfold U64 at h
  unfold wrap64
  omega
theorem unzig_odd (u : Nat) (h : U64 u) (hn : ((u : Int) % 2 == 1) = true) : bits .xor .i64 (-1) (wrap64 ((u : Int) / 2)) = unzig u := by
  have hn' : (u : Int) % 2 = 1 := by simpa using hn
  unfold unzig
  rw [half_wrap u h, Lib.i64_not _ (by unfold U64 at h; omega), if_pos (by omega)]
theorem unzig_even (u : Nat) (h : U64 u) (hn : ¬ ((u : Int) % 2 == 1) = true) : wrap64 ((u : Int) / 2) = unzig u := by
  have hn' : ¬ (u : Int) % 2 = 1 := by simpa using hn
  unfold unzig
  rw [half_wrap u h, if_neg (by omega)]
theorem unzig_zigzag (n : Int) : unzig (Lib.zigzag n) = n := by unfold unzig Lib.zigzag; split <;> split <;> omega
theorem zigzag_unzig (u : Nat) : Lib.zigzag (unzig u) = u := by unfold unzig Lib.zigzag; split <;> split <;> omega
theorem unzig_i64 (u : Nat) (h : U64 u) : I64 (unzig u) := by unfold unzig I64; unfold U64 at h; split <;> omega

theorem extract_drop (l : List UInt8) (k : Nat) : (ByteArray.mk l.toArray).extract k l.length = ⟨(l.drop k).toArray⟩ := by
  apply ByteArray.ext
  rw [ByteArray.data_extract]
  simp
  exact List.take_of_length_le (by simp)
theorem extract_take (l : List UInt8) (k : Nat) : (ByteArray.mk l.toArray).extract 0 k = ⟨(l.take k).toArray⟩ := by
  apply ByteArray.ext
  rw [ByteArray.data_extract]
  simp

theorem extract_mid (l : List UInt8) (q n : Nat) : (ByteArray.mk l.toArray).extract q (q + n) = ⟨((l.drop q).take n).toArray⟩ := by
  apply ByteArray.ext
  rw [ByteArray.data_extract]
  simp

/-- The heap's block number g: the cells cs of element type t, free to be written. -/
def At (w : World) (g : Nat) (t : TypeId) (cs : Array Value) : Prop := w.heap[g]? = some (.cells cs t (0, 0))
section
variable {w w' : World} {g : Nat} {t : TypeId} {cs : Array Value}
theorem At.lt (h : At w g t cs) : g < w.heap.size := (Array.getElem?_eq_some_iff.1 h).1
theorem At.cell (h : At w g t cs) (i : Nat) : w.cell? ⟨g, i, none⟩ = cs[i]? := cell_of_row w g i cs t (0, 0) h
theorem At.unfrozen (h : At w g t cs) (i : Nat) : w.frozen? ⟨g, i, none⟩ = false := by
  have e : w.heap[g]? = some (.cells cs t (0, 0)) := h
  simp [World.frozen?, e]
theorem At.fresh (w : World) (t : TypeId) (cs : Array Value) : At (w.alloc (.cells cs t)) w.heap.size t cs := heap_alloc_new w _
/-- Whatever leaves block g alone. -/
theorem At.keep (h : At w g t cs) (e : w'.heap[g]? = w.heap[g]?) : At w' g t cs := e.trans h
theorem At.alloc (h : At w g t cs) (o : Obj) : At (w.alloc o) g t cs := h.keep (Below.heap_alloc w o g h.lt)
theorem At.put (h : At w g t cs) (i : Nat) (u : Value) : At (w.setCell ⟨g, i, none⟩ u) g t (cs.setIfInBounds i u) := by
  have e : w.heap[g]? = some (.cells cs t (0, 0)) := h
  simp [At, World.setCell, Array.getElem?_modify, e]
theorem At.elsewhere (h : At w g t cs) {p : Addr} (hp : g ≠ p.block) (u : Value) : At (w.setCell p u) g t cs := h.keep (Below.heap_setCell w p u g hp)
theorem At.below {B : Nat} (h : At w g t cs) (hb : Below B w w') (hg : g < B) : At w' g t cs := h.keep (hb.block g hg)
theorem At.grown {row : Option Nat} (h : At w g t cs) (hb : w.grownBy w' row) (hg : some g ≠ row) : At w' g t cs := h.keep (hb.block g h.lt hg)
/-- A block has one element type. -/
theorem At.type_eq {t' : TypeId} {cs' : Array Value} {m : Nat × Nat} (h : At w g t cs) (h' : w.heap[g]? = some (.cells cs' t' m)) : t = t' := by
  have := Option.some.inj (Eq.trans (Eq.symm h) h')
  injection this
end
/-- From (w, v) to (w', v'), v lying in block b: nothing that was there has turned but block b and v's own row; v' lies in that row or in a new one. -/
structure Wgrew (w : World) (b : Nat) (v : Value) (w' : World) (v' : Value) : Prop where
  os : w'.os = w.os
  tape : w'.tape = w.tape
  output : w'.output = w.output
  size : w.heap.size ≤ w'.heap.size
  block : ∀ k, k < w.heap.size → k ≠ b → some k ≠ v.ownBlock → w'.heap[k]? = w.heap[k]?
  lies : ∀ g, v'.ownBlock = some g → v.ownBlock = some g ∨ w.heap.size ≤ g
theorem Wgrew.refl (w : World) (b : Nat) (v : Value) : Wgrew w b v w v := ⟨rfl, rfl, rfl, Nat.le_refl _, fun _ _ _ _ => rfl, fun _ h => .inl h⟩
theorem Wgrew.trans {x y z : World} {b : Nat} {u v t : Value} (h : Wgrew x b u y v) (k : Wgrew y b v z t) : Wgrew x b u z t := by
  refine ⟨k.os.trans h.os, k.tape.trans h.tape, k.output.trans h.output, Nat.le_trans h.size k.size, fun i hi hne hne2 => ?_, fun g hg => ?_⟩
  · refine (k.block i (Nat.lt_of_lt_of_le hi h.size) hne ?_).trans (h.block i hi hne hne2)
    intro e
    rcases h.lies i e.symm with e' | e'
    · exact hne2 e'.symm
    · omega
  · rcases k.lies g hg with e | e
    · exact h.lies g e
    · exact .inr (Nat.le_trans h.size e)
/-- A row grew, and the new value was stored in block b. -/
theorem Wgrew.step {w w' : World} {v v' : Value} (h : Grew w v w' v') (b : Nat) : Wgrew w b v (w'.setCell ⟨b, 0, none⟩ v') v' := by
  refine ⟨h.grown.os, h.grown.tape, h.grown.output, by simpa [World.setCell] using h.grown.size, fun k hk hne hne2 => ?_, h.lies⟩
  exact (Below.heap_setCell _ _ _ _ hne).trans (h.grown.block k hk hne2)
theorem Wgrew.alloc_l {w w' : World} {b : Nat} {v v' : Value} {o : Obj} (h : Wgrew (w.alloc o) b v w' v') : Wgrew w b v w' v' := by
  have hs : (w.alloc o).heap.size = w.heap.size + 1 := by simp
  refine ⟨h.os, h.tape, h.output, by have := h.size; omega, fun k hk hne hne2 => ?_, fun g hg => ?_⟩
  · exact (h.block k (by omega) hne hne2).trans (Below.heap_alloc _ _ _ hk)
  · rcases h.lies g hg with e | e
    · exact .inl e
    · exact .inr (by omega)
theorem Wgrew.at_ {w w' : World} {b g : Nat} {v v' : Value} {t : TypeId} {cs : Array Value} (h : Wgrew w b v w' v') (hg : At w g t cs) (hne : g ≠ b) (hne2 : v.ownBlock ≠ some g) : At w' g t cs :=
  (h.block g hg.lt hne (fun e => hne2 e.symm)).trans hg
theorem Wgrew.cell {w w' : World} {b : Nat} {v v' : Value} (h : Wgrew w b v w' v') {p : Addr} (hp : p.block < w.heap.size) (hne : p.block ≠ b) (hne2 : v.ownBlock ≠ some p.block) : w'.cell? p = w.cell? p :=
  World.cell?_of_block (h.block p.block hp hne (fun e => hne2 e.symm))
/-- What another value owns stays owned. -/
theorem Wgrew.owns {w w' : World} {b base : Nat} {v v' x : Value} {e : TypeId} {xs : List UInt8} (h : Wgrew w b v w' v') (ho : Owns w base e x xs) (hb : x.ownBlock ≠ some b) (hv : x.ownBlock = none ∨ x.ownBlock ≠ v.ownBlock) : Owns w' base e x xs := by
  refine ⟨ho.1, ?_⟩
  rcases ho.2 with hn | ⟨g, cap, cur, rfl, hb2, hgg, rest⟩
  · exact .inl hn
  · refine .inr ⟨g, cap, cur, rfl, hb2, ?_, rest⟩
    rw [h.block g (Array.getElem?_eq_some_iff.1 hgg).1 (fun e => hb (by rw [← e]; rfl)) (by simpa [Value.ownBlock] using hv)]
    exact hgg
theorem Wgrew.owns_nil {w w' : World} {b base : Nat} {v' x : Value} {e : TypeId} {xs : List UInt8} (h : Wgrew w b (.slice none 0 0) w' v') (ho : Owns w base e x xs) (hb : x.ownBlock ≠ some b) : Owns w' base e x xs :=
  h.owns ho hb (by cases hx : x.ownBlock <;> simp [Value.ownBlock])
theorem Wgrew.below {w w' : World} {b B : Nat} {v v' : Value} (h : Wgrew w b v w' v') (hB : B ≤ w.heap.size) (hb : B ≤ b) (hv : ∀ g, v.ownBlock = some g → B ≤ g) : Below B w w' :=
  ⟨h.os, h.tape, h.output, h.size, fun k hk => h.block k (by omega) (by omega) (fun e => by have := hv k e.symm; omega)⟩
/-- Rows of different element types differ. -/
theorem owns_apart {w : World} {base g : Nat} {e t : TypeId} {v : Value} {xs : List UInt8} {cs : Array Value} (h : Owns w base e v xs) (hg : At w g t cs) (hne : e ≠ t) : v.ownBlock ≠ some g := by
  rcases h.2 with ⟨rfl, _⟩ | ⟨g', cap, cur, rfl, _, hh, _⟩
  · intro h; simp [Value.ownBlock] at h
  · intro he
    obtain rfl : g' = g := Option.some.inj he
    exact hne (hg.type_eq hh).symm
theorem Owns.below {w w' : World} {base B : Nat} {e : TypeId} {v : Value} {xs : List UInt8} (h : Owns w base e v xs) (hb : Below B w w') (hB : ∀ g, v.ownBlock = some g → g < B) : Owns w' base e v xs := by
  refine ⟨h.1, ?_⟩
  rcases h.2 with hn | ⟨g, cap, cur, rfl, hb2, hgg, rest⟩
  · exact .inl hn
  · exact .inr ⟨g, cap, cur, rfl, hb2, (hb.block g (hB g rfl)).trans hgg, rest⟩
theorem Owns.lt {w : World} {base : Nat} {e : TypeId} {v : Value} {xs : List UInt8} (h : Owns w base e v xs) : ∀ g, v.ownBlock = some g → base ≤ g ∧ g < w.heap.size := World.ownsRow.lt h

theorem Owns.far {w : World} {base : Nat} {e : TypeId} {v : Value} {xs : List UInt8} (h : Owns w base e v xs) {p : Addr} (hne : v.ownBlock ≠ some p.block) (u : Value) : Owns (w.setCell p u) base e v xs := by
  refine ⟨h.1, ?_⟩
  rcases h.2 with hn | ⟨g, cap, cur, rfl, hb2, hgg, rest⟩
  · exact .inl hn
  · exact .inr ⟨g, cap, cur, rfl, hb2, (Below.heap_setCell _ _ _ _ (fun e => hne (by rw [← e]; rfl))).trans hgg, rest⟩
/-- 'string(b)' of bytes that are owned. -/
theorem run_bytes_owned {P : Program} {w : World} {base : Nat} {v : Value} {xs : List UInt8} (src dst e : TypeId) (hs : P.underlying src = some (.slice e)) (he : P.underlying e = some (.int .u8)) (hd : P.underlying dst = some .string)
    (h : Owns w base e v xs) : (convert src dst v).run P w = .ok (.string ⟨xs.toArray⟩) w := by
  rcases h.2 with ⟨rfl, h0⟩ | ⟨g, cap, cur, rfl, _, hg, _, _, _, htk⟩
  · have : xs = [] := List.eq_nil_of_length_eq_zero h0
    subst this
    exact Lib.run_convert_nil_bytes w src dst e 0 hs he hd
  · rw [Nat.mul_one] at htk
    exact run_convert_bytes_back w src dst e _ _ xs hs he hd (Lib.bytes_of_row hg htk)

/-- 'string([]byte{b})', the one byte just laid. -/
theorem conv_one {P : Program} (w : World) (src dst e : TypeId) (hs : P.underlying src = some (.slice e)) (he : P.underlying e = some (.int .u8)) (hd : P.underlying dst = some .string) (a : Nat) (ha : a < 256) (b : Int) (hb : b = (a : Int)) :
    (convert src dst (.slice (some ⟨w.heap.size, 0, none⟩) 1 1)).run P (w.alloc (.cells #[.int .u8 b] e)) = .ok (.string ⟨[a.toUInt8].toArray⟩) (w.alloc (.cells #[.int .u8 b] e)) := by
  refine run_bytes_owned (base := 0) src dst e hs he hd ⟨rfl, .inr ⟨w.heap.size, 1, #[.int .u8 b], rfl, by omega, heap_alloc_new w _, by simp, by unfold maxLen; omega, rfl, ?_⟩⟩
  subst hb
  simp only [Lib.byteCells, List.map_cons, List.map_nil, Lib.toUInt8_toNat ha]
  rfl

/-- The slice '.slice A n _' reads as the numbers ns. -/
def Nums (w : World) (A : Option Addr) (n : Nat) (ns : List Int) : Prop :=
  ns.length = n ∧ (0 < n → ∃ b off, A = some ⟨b, off, none⟩ ∧ b < w.heap.size ∧ ∀ j, j < n → w.cell? ⟨b, off + j, none⟩ = some (.int .i64 (ns.getD j 0)))

theorem grownBy_set (w : World) (b i : Nat) (u : Value) : w.grownBy (w.setCell ⟨b, i, none⟩ u) (some b) :=
  ⟨rfl, rfl, rfl, by simp [World.setCell], fun k _ hne => Below.heap_setCell _ _ _ _ (fun e => hne (by rw [e]))⟩
theorem grownBy_tr {a b c : World} {row : Option Nat} (h : a.grownBy b row) (k : b.grownBy c row) : a.grownBy c row :=
  ⟨k.os.trans h.os, k.tape.trans h.tape, k.output.trans h.output, Nat.le_trans h.size k.size, fun i hi hne => (k.block i (Nat.lt_of_lt_of_le hi h.size) hne).trans (h.block i hi hne)⟩
theorem run_index_list {P : Program} (t : TypeId) (l : List UInt8) (i : Int) (k : Nat) (b : Nat) (h : P.underlying t = some .string) (hi : i = (k : Int)) (hk : k < l.length) (hb : (l.getD k 0).toNat = b) (w : World) :
    (Instr.index t (.string ⟨l.toArray⟩) (.int .i64 i)).run P w = .ok (.int .u8 b) w := by
  subst hi
  rw [run_index_string w t _ .i64 _ h]
  have hk' : k < (ByteArray.mk l.toArray).size := by simpa [ByteArray.size] using hk
  rw [dif_pos ⟨by omega, by omega⟩]
  have e : ((ByteArray.mk l.toArray)[((k : Nat) : Int).toNat]'(by simpa using hk')) = l.getD k 0 := by
    simp only [Int.toNat_natCast]
    rw [List.getD_eq_getElem?_getD, List.getElem?_eq_getElem hk]
    rfl
  rw [e, hb]
end Go.Proofs.YtnhalfdddcjicaaGreat

namespace Go.Proofs.YtnhalfdddcjicaaGreat
open Go.RowKit
theorem info_u8 : (Tryz.prog.info? 5).map (fun i => (i.zero, i.size, i.bytes)) = some (some (.int .u8 0), 1, 1) := by kernel_rfl
end Go.Proofs.YtnhalfdddcjicaaGreat

namespace Go.Proofs.YtnhalfdddcjicaaGreat
open Go.RowKit

set_option maxRecDepth 100000 in
set_option maxHeartbeats 400000 in
theorem toZigzag_any (n : Int) (hI : I64 n) (w : World) :
    Calls Tryz.prog 106 #[.int .i64 n] w fun e w' => e = .returned (.int .u64 (Lib.zigzag n)) ∧ w = w' := by
  by_cases hn : n < 0
  · go_enter Tryz.func106, Tryz.ntmps106
    go_wp2
    go_ret
    exact ⟨ret_int (Lib.zigzag_neg hI.1 hn), rfl⟩
  · go_enter Tryz.func106, Tryz.ntmps106
    go_wp2
    go_ret
    refine ⟨ret_int ?_, rfl⟩
    rw [Lib.zigzag_nonneg (by omega), IntKind.wrap_u64, IntKind.wrap_u64]
    have := hI.2; omega

set_option maxRecDepth 100000 in
set_option maxHeartbeats 400000 in
theorem appendNumber_any (n : Int) (hI : I64 n) (base : Nat) (v : Value) (xs : List UInt8) (w : World) (ho : Owns w base 5 v xs) (hb : base ≤ w.heap.size)
    (hl : xs.length ≤ 1000000000) :
    Calls Tryz.prog 79 #[v, .int .i64 n] w fun e w' => ∃ g m cap, e = .returned (.slice (some ⟨g, 0, none⟩) m cap) ∧ Owns w' base 5 (.slice (some ⟨g, 0, none⟩) m cap) (xs ++ enc n) ∧ Grew w v w' (.slice (some ⟨g, 0, none⟩) m cap) := by
  obtain ⟨i0, hi0, hz0, hz1, hz2⟩ := info_parts info_u8
  go_enter Tryz.func79, Tryz.ntmps79
  go_wp2_with (go_at_call 106; refine (toZigzag_any n hI _).mono ?_; rintro e w' ⟨rfl, rfl⟩)
  go_loopw [0, 5] (fun v' t wr => ∃ (u : Nat) (ys : List UInt8), t = .int .u64 u ∧ U64 u ∧ Hid (ys ++ Lib.uvarint u = xs ++ Lib.uvarint (Lib.zigzag n)) ∧ Owns wr base 5 v' ys ∧ Grew w v wr v') (fun _ t _ => (intOf t).toNat)
  case atStart => exact ⟨_, xs, rfl, Lib.zigzag_lt hI.1 hI.2, rfl, ho, Grew.refl _ _⟩
  case round =>
    obtain ⟨u, ys, rfl, hu, hy, hown, hgr⟩ := hrel
    have hlen : ys.length + (Lib.uvarint u).length = xs.length + (Lib.uvarint (Lib.zigzag n)).length := by have := congrArg List.length hy.out; simpa using this
    have hlz : (Lib.uvarint (Lib.zigzag n)).length ≤ 10 := uvarint_len (Lib.zigzag_lt hI.1 hI.2)
    have hly : ys.length ≤ 2000000000 := by omega
    clear hlen hlz
    have hsz := hgr.grown.size
    have hown' : wr.ownsRow base 5 1 _ ys.length (Lib.byteCells ys) := hown
    by_cases hlt : u ≤ 127
    · go_wp2_with (at_builtin; refine wpList_append_lies _ rfl (.tmp 19) (.tmp 22) 80 rfl base 5 i0 (.int .u8 0) 1 1 Tryz.underlying80 hi0 hz0 hz1 hz2 rfl (by omega) _ _ _ rfl (hown'.alloc _) ⟨wr.heap.size, 0, none⟩ 1 1 [.int .u8 u] rfl rfl ?c1 ?c2 ?c3 ?c4 ?c5 ?c6 _ rfl ?_)
      case c1 =>
        intro j x hj
        match j, hj with
        | 0, hj => simp at hj; subst hj; simp [Addr.add]
      case c2 => intro x hx; simp at hx; subst hx; rfl
      case c3 => omega
      case c4 => unfold maxLen; omega
      case c5 => omega
      case c6 => simp; omega
      intro g cap w1 hown1 hg1 hat hlt1
      go_wp2
      go_ret
      refine ⟨_, _, _, rfl, ?_, (hgr.trans (Grew.alloc _ _ _)).trans (Grew.append hg1 (by simpa using hat))⟩
      have hs := owns_snoc (a := u) (by omega) rfl hown1
      unfold enc
      rw [← hy.out, Lib.uvarint_small (by omega)]
      exact hs
    · have h2 : (127 : Int) < u := by omega
      have hv := more_byte u hu
      go_wp2_with (at_builtin; refine wpList_append_lies _ rfl (.tmp 10) (.tmp 15) 80 rfl base 5 i0 (.int .u8 0) 1 1 Tryz.underlying80 hi0 hz0 hz1 hz2 rfl (by omega) _ _ _ rfl (hown'.alloc _) ⟨wr.heap.size, 0, none⟩ 1 1 [.int .u8 ((u : Int) % 128 + 128)] rfl rfl ?c1 ?c2 ?c3 ?c4 ?c5 ?c6 _ rfl ?_)
      case c1 =>
        intro j x hj
        match j, hj with
        | 0, hj => simp at hj; subst hj; simp [Addr.add]
      case c2 => intro x hx; simp at hx; subst hx; rfl
      case c3 => omega
      case c4 => unfold maxLen; omega
      case c5 => omega
      case c6 => simp; omega
      intro g cap w1 hown1 hg1 hat hlt1
      go_wp2
      refine ⟨⟨u / 128, ys ++ [(u % 128 + 128).toUInt8], by go_num, ?_, ?_, owns_snoc (by omega) (by omega) hown1, (hgr.trans (Grew.alloc _ _ _)).trans (Grew.append hg1 (by simpa using hat))⟩, by simp [intOf]; omega⟩
      · unfold U64 at hu ⊢; omega
      · have := hy.out
        rw [Lib.uvarint_big (by omega)] at this
        show _ ++ _ = _
        simpa using this

end Go.Proofs.YtnhalfdddcjicaaGreat

namespace Go.Proofs.YtnhalfdddcjicaaGreat
open Go.RowKit

/-- What takeGroups comes to at the bytes that are left, i groups having been read that spell acc. -/
def grp (i acc : Nat) : List UInt8 → Option (Nat × Nat)
  | [] => none
  | b :: r => if i = 10 then none else if i = 9 ∧ 1 < b.toNat then none else
      if b.toNat < 128 then (if b.toNat = 0 ∧ 0 < i then none else some (acc + b.toNat * 2 ^ (7 * i), i + 1))
      else grp (i + 1) (acc + b.toNat % 128 * 2 ^ (7 * i)) r

def grpRes : Option (Nat × Nat) → Value
  | some (u, k) => .tuple #[.int .u64 u, .int .i64 k]
  | none => .tuple #[.int .u64 0, .int .i64 0]

theorem or_group (k acc b : Nat) (hk : k ≤ 9) (hb : b < 256) (h9 : k = 9 → b ≤ 1) (hacc : acc < 2 ^ (7 * k)) :
    bits .or .u64 (acc : Int) (IntKind.u64.wrap (IntKind.u64.wrap (bits .and .u8 (b : Int) 127) * 2 ^ (7 * k))) = ((acc + b % 128 * 2 ^ (7 * k) : Nat) : Int) := by
  rw [u8_and127 _ (by omega) (by omega), wraps_u64 ((b : Int) % 128) (by omega) (by omega)]
  have e : ((b : Int) % 128) * 2 ^ (7 * k) = ((b % 128 * 2 ^ (7 * k) : Nat) : Int) := by
    rw [Int.natCast_mul, Int.natCast_pow]; rfl
  have hlt : b % 128 * 2 ^ (7 * k) < 2 ^ 64 := by
    by_cases h : k = 9
    · subst h
      have := h9 rfl
      have h2 : b % 128 ≤ 1 := by omega
      calc b % 128 * 2 ^ (7 * 9) ≤ 1 * 2 ^ (7 * 9) := Nat.mul_le_mul_right _ h2
        _ < 2 ^ 64 := by decide
    · have h1 : 2 ^ (7 * k) ≤ 2 ^ 56 := Nat.pow_le_pow_right (by decide) (by omega)
      calc b % 128 * 2 ^ (7 * k) ≤ 127 * 2 ^ 56 := Nat.mul_le_mul (by omega) h1
        _ < 2 ^ 64 := by decide
  rw [e, wraps_u64 _ (by omega) (by omega)]
  have hmod : ((b % 128 * 2 ^ (7 * k) : Nat) : Int) % 2 ^ (7 * k) = 0 := by
    rw [Int.natCast_mul, Int.natCast_pow]; exact Int.mul_emod_left _ _
  have hacc64 : (acc : Int) < 2 ^ 64 := by
    have h1 : 2 ^ (7 * k) ≤ 2 ^ 63 := Nat.pow_le_pow_right (by decide) (by omega)
    have h2 : acc < 2 ^ 63 := Nat.lt_of_lt_of_le hacc h1
    omega
  rw [bits_join_low .u64 64 (by decide) wraps_u64 (7 * k) (acc : Int) _ (by omega) (by have := Int.ofNat_lt.2 hacc; rw [Int.natCast_pow] at this; exact this) hacc64 (by omega) hmod (by omega)]
  rw [Int.natCast_add]

theorem drop_at (s : ByteArray) (k : Nat) (h : k < s.size) : s.data.toList.drop k = s[k] :: s.data.toList.drop (k + 1) := by
  have h' : k < s.data.toList.length := by simpa using h
  rw [List.drop_eq_getElem_cons h']
  rfl

theorem acc_more (k acc b : Nat) (hacc : acc < 2 ^ (7 * k)) : acc + b % 128 * 2 ^ (7 * k) < 2 ^ (7 * (k + 1)) := by
  have e : 2 ^ (7 * (k + 1)) = 128 * 2 ^ (7 * k) := by rw [show 7 * (k + 1) = 7 * k + 7 by omega, Nat.pow_add]; omega
  have h1 : b % 128 * 2 ^ (7 * k) ≤ 127 * 2 ^ (7 * k) := Nat.mul_le_mul_right _ (by omega)
  rw [e]
  omega

theorem grp_bad9 (acc : Nat) (b : UInt8) (r : List UInt8) (h : 1 < b.toNat) : grp 9 acc (b :: r) = none := by simp [grp, h]
theorem grp_zero (k acc : Nat) (b : UInt8) (r : List UInt8) (hk : k < 10) (hb : b.toNat = 0) (h0 : 0 < k) : grp k acc (b :: r) = none := by
  have h10 : ¬ k = 10 := by omega
  simp [grp, hb, h0, h10]
theorem grp_last (k acc : Nat) (b : UInt8) (r : List UInt8) (hk : k < 10) (h9 : k = 9 → b.toNat ≤ 1) (hb : b.toNat < 128) (h0 : ¬ (b.toNat = 0 ∧ 0 < k)) :
    grp k acc (b :: r) = some (acc + b.toNat % 128 * 2 ^ (7 * k), k + 1) := by
  have h10 : ¬ k = 10 := by omega
  have h9' : ¬ (k = 9 ∧ 1 < b.toNat) := fun h => by have := h9 h.1; omega
  rw [grp, if_neg h10, if_neg h9', if_pos hb, if_neg h0, Nat.mod_eq_of_lt hb]
theorem grp_go (k acc : Nat) (b : UInt8) (r : List UInt8) (hk : k < 9) (hb : ¬ b.toNat < 128) :
    grp k acc (b :: r) = grp (k + 1) (acc + b.toNat % 128 * 2 ^ (7 * k)) r := by
  have h10 : ¬ k = 10 := by omega
  have h9' : ¬ (k = 9 ∧ 1 < b.toNat) := fun h => by omega
  rw [grp, if_neg h10, if_neg h9', if_neg hb]
theorem grp_ten (acc : Nat) (l : List UInt8) : grp 10 acc l = none := by cases l <;> simp [grp]
theorem grp_nil (k acc : Nat) : grp k acc [] = none := by simp [grp]

theorem grpRes_some (u k : Nat) (x y : Int) (hx : (u : Int) = x) (hy : (k : Int) = y) : grpRes (some (u, k)) = .tuple #[.int .u64 x, .int .i64 y] := by subst hx; subst hy; rfl
theorem ret_two {k j : IntKind} {a b : Int} {v : Value} (h : v = .tuple #[.int k a, .int j b]) : Ending.returned (.tuple #[.int k a, .int j b]) = .returned v := by rw [h]

end Go.Proofs.YtnhalfdddcjicaaGreat

namespace Go.Proofs.YtnhalfdddcjicaaGreat

theorem toUInt8_small {a : Nat} (h : a < 256) : (a.toUInt8).toNat = a := Lib.toUInt8_toNat h

theorem pow_step (i : Nat) : 2 ^ (7 * (i + 1)) = 128 * 2 ^ (7 * i) := by rw [show 7 * (i + 1) = 7 * i + 7 by omega, Nat.pow_add]; omega

theorem grp_uvarint (v i acc : Nat) (r : List UInt8) (hi : i ≤ 9) (hv : v * 2 ^ (7 * i) < 2 ^ 64) (h0 : 0 < v ∨ i = 0) :
    grp i acc (Lib.uvarint v ++ r) = some (acc + v * 2 ^ (7 * i), i + (Lib.uvarint v).length) := by
  have h9 : i = 9 → v ≤ 1 := by
    rintro rfl
    omega
  by_cases hs : v < 128
  · rw [Lib.uvarint_small hs]
    have e := toUInt8_small (a := v) (by omega)
    rw [List.singleton_append, grp_last i acc _ r (by omega) (by rw [e]; exact h9) (by rw [e]; exact hs) (by rw [e]; omega), e, Nat.mod_eq_of_lt hs]
    rfl
  · have hi8 : i < 9 := by
      rcases Nat.lt_or_ge i 9 with h | h
      · exact h
      · have := h9 (by omega); omega
    have e := toUInt8_small (a := v % 128 + 128) (by omega)
    rw [Lib.uvarint_big (by omega), List.cons_append, grp_go i acc _ _ hi8 (by rw [e]; omega), e]
    have hp := pow_step i
    have hpos : 0 < 2 ^ (7 * i) := Nat.pos_of_ne_zero (by simp)
    have hdm : v / 128 * (128 * 2 ^ (7 * i)) + v % 128 * 2 ^ (7 * i) = v * 2 ^ (7 * i) := by
      rw [← Nat.mul_assoc, ← Nat.add_mul]
      congr 1
      omega
    rw [grp_uvarint (v / 128) (i + 1) _ r (by omega) (by rw [hp]; omega) (Or.inl (by omega)), hp]
    have e2 : (v % 128 + 128) % 128 = v % 128 := by omega
    rw [e2]
    simp only [List.length_cons, Option.some.injEq, Prod.mk.injEq]
    constructor <;> omega
termination_by v
decreasing_by omega

theorem grp_cut (v i acc c : Nat) (hc : c < (Lib.uvarint v).length) : grp i acc ((Lib.uvarint v).take c) = none := by
  cases c with
  | zero => simp [grp]
  | succ c =>
    by_cases hs : v < 128
    · rw [Lib.uvarint_small hs] at hc; simp at hc
    · rw [Lib.uvarint_big (by omega)] at hc ⊢
      have e := toUInt8_small (a := v % 128 + 128) (by omega)
      rw [List.take_succ_cons, grp, e]
      split
      · rfl
      split
      · rfl
      rw [if_neg (by omega)]
      exact grp_cut (v / 128) (i + 1) _ c (by simpa using hc)
termination_by v
decreasing_by omega

theorem grp_enc (n : Int) (h : I64 n) (r : List UInt8) : grp 0 0 (enc n ++ r) = some (Lib.zigzag n, (enc n).length) := by
  have hz := Lib.zigzag_lt h.1 h.2
  have := grp_uvarint (Lib.zigzag n) 0 0 r (by omega) (by simpa using hz) (Or.inr rfl)
  simpa [enc] using this
theorem grp_enc_cut (n : Int) (c : Nat) (hc : c < (enc n).length) : grp 0 0 ((enc n).take c) = none := grp_cut _ _ _ c hc
theorem enc_pos (n : Int) : 0 < (enc n).length := Lib.uvarint_pos _
end Go.Proofs.YtnhalfdddcjicaaGreat
