/- '[]byte(text)': bytes laid, the place past their end marked. No program is named here. -/
import Derived.Test.YtdgcjhkncokieaaMem
namespace Go.Proofs.Ytdgcjhkncokieaa
open Go.RowKit

/-- Block g: the bytes u and what lies behind them, the place past the end marked ('[]byte(text)'). -/
def Lain (w : World) (g : Nat) (e : TypeId) (u : List UInt8) : Prop :=
  ∃ C : Array Value, w.heap[g]? = some (.cells C e (C.size, C.size + 1)) ∧ u.length ≤ C.size ∧ ∀ i, i < u.length → C[i]? = some (.int .u8 (((u.getD i 0).toNat : Nat) : Int))
section
variable {w w' : World} {g : Nat} {e : TypeId} {u : List UInt8}
theorem Lain.cell (h : Lain w g e u) {i : Nat} (hi : i < u.length) : w.cell? ⟨g, i, none⟩ = some (.int .u8 (((u.getD i 0).toNat : Nat) : Int)) := by
  obtain ⟨C, h1, h2, h3⟩ := h
  rw [cell_of_row w g i C e _ h1]
  exact h3 i hi
theorem Lain.unfrozen (h : Lain w g e u) {i : Nat} (hi : i < u.length) : w.frozen? ⟨g, i, none⟩ = false := by
  obtain ⟨C, h1, h2, h3⟩ := h
  simp [World.frozen?, h1]
  omega
theorem Lain.lt (h : Lain w g e u) : g < w.heap.size := by
  obtain ⟨C, h1, _, _⟩ := h
  exact (Array.getElem?_eq_some_iff.1 h1).1
theorem Lain.keep (h : Lain w g e u) (k : w'.heap[g]? = w.heap[g]?) : Lain w' g e u := by
  obtain ⟨C, h1, h2⟩ := h
  exact ⟨C, k.trans h1, h2⟩
theorem Lain.put (h : Lain w g e u) {i : Nat} (hi : i < u.length) {b : Nat} (hb : b < 256) : Lain (w.setCell ⟨g, i, none⟩ (.int .u8 (b : Int))) g e (u.set i b.toUInt8) := by
  obtain ⟨C, h1, h2, h3⟩ := h
  refine ⟨C.setIfInBounds i (.int .u8 (b : Int)), ?_, by simpa using h2, fun j hj => ?_⟩
  · simp [World.setCell, Array.getElem?_modify, h1]
  · rw [List.length_set] at hj
    by_cases hij : i = j
    · subst hij
      rw [Array.getElem?_setIfInBounds_self_of_lt (by omega)]
      rw [List.getD_eq_getElem?_getD, List.getElem?_set_self hi, Option.getD_some, Lib.toUInt8_toNat hb]
    · rw [Array.getElem?_setIfInBounds_ne hij, h3 j hj, List.getD_eq_getElem?_getD, List.getD_eq_getElem?_getD, List.getElem?_set_ne hij]
theorem Lain.conv {P : Program} (h : Lain w g e u) (src dst : TypeId) (hs : P.underlying src = some (.slice e)) (he : P.underlying e = some (.int .u8)) (hd : P.underlying dst = some .string) (n cap : Nat) (hn : u.length = n) :
    (convert src dst (.slice (some ⟨g, 0, none⟩) n cap)).run P w = .ok (.string ⟨u.toArray⟩) w := by
  subst hn
  refine run_convert_bytes_back w src dst e ⟨g, 0, none⟩ cap u hs he hd fun j hj => ?_
  have := h.cell hj
  rw [List.getD_eq_getElem?_getD, List.getElem?_eq_getElem hj, Option.getD_some] at this
  have e : (⟨g, 0, none⟩ : Addr).add j = ⟨g, j, none⟩ := by cases j <;> simp [Addr.add]
  rw [e]
  exact this
end
theorem lay_bytes {P : Program} (w : World) (src dst e : TypeId) (u : List UInt8) (hs : P.underlying src = some .string) (hd : P.underlying dst = some (.slice e)) (he : P.underlying e = some (.int .u8)) (s : ByteArray) (hu : s = ⟨u.toArray⟩) :
    ∃ cap w', (convert src dst (.string s)).run P w = .ok (.slice (some ⟨w.heap.size, 0, none⟩) u.length cap) w' ∧ Lain w' w.heap.size e u ∧ Below w.heap.size w w' := by
  subst hu
  have hsz : (ByteArray.mk u.toArray).size = u.length := by simp [ByteArray.size]
  refine ⟨_, _, by rw [run_bytes_of_string w src dst e _ hs hd he, hsz], ?_, ?_⟩
  · refine ⟨_, heap_alloc_new w.drew _, by simp [bytesRow], fun i hi => ?_⟩
    have h2 : i < (Array.map (fun b : UInt8 => Value.int .u8 (b.toNat : Int)) u.toArray).size := by simpa using hi
    unfold bytesRow
    rw [Array.getElem?_append_left h2, List.getD_eq_getElem?_getD, List.getElem?_eq_getElem hi, Option.getD_some]
    simp [hi]
  · exact ((Below.refl w.heap.size w).drew).alloc (Nat.le_refl _) _
end Go.Proofs.Ytdgcjhkncokieaa
