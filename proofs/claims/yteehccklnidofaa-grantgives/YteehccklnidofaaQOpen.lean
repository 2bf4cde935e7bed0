/- Arguments opened: what a walk is told of a slice of numbers, strings or bools, out of its reading. -/
import Derived.Test.YteehccklnidofaaQMem
import Derived.ProofKit
import Derived.OpenShut
import Derived.ShutString
import Derived.ChangeOld
import Derived.SliceStrings
import Derived.Deep.Slices
namespace Go.Proofs.Yteehccklnidofaa
open Go.ChangeShapes Go.WideShapes Go.ChangeAt Go.RowKit

def Strs (w : World) (A : Option Addr) (n : Nat) (ss : List (List UInt8)) : Prop :=
  ss.length = n ∧ (0 < n → ∃ b off, A = some ⟨b, off, none⟩ ∧ b < w.heap.size ∧ ∀ j, j < n → w.cell? ⟨b, off + j, none⟩ = some (.string ⟨(ss.getD j []).toArray⟩))
def Bools (w : World) (A : Option Addr) (n : Nat) (bs : List Bool) : Prop :=
  bs.length = n ∧ (0 < n → ∃ b off, A = some ⟨b, off, none⟩ ∧ b < w.heap.size ∧ ∀ j, j < n → w.cell? ⟨b, off + j, none⟩ = some (.bool (bs.getD j false)))

theorem i64_of_wf {n : Int} (h : (Lit.int .i64 n).wf = true) : I64 n := by
  simpa [Lit.wf, IntKind.min, IntKind.max, IntKind.signed, IntKind.bits, I64] using h

section
variable {H : Type} {enc : TypeId × Value → H} {P : Program} {w : World}

theorem row_spot {a : Addr} {n : Nat} {V : Nat → Value} (hn : 0 < n) (h : ∀ i, i < n → w.cell? (a.add i) = some (V i)) :
    ∃ b off, a = ⟨b, off, none⟩ ∧ b < w.heap.size ∧ ∀ i, i < n → w.cell? ⟨b, off + i, none⟩ = some (V i) := by
  obtain ⟨b, off, spot⟩ := a
  have hc := h 0 hn
  have hspot : spot = none := by simpa [Addr.add] using World.cell?_spot hc
  subst hspot
  refine ⟨b, off, rfl, ?_, fun i hi => ?_⟩
  · have := World.block_lt_of_cell? w _ hc
    simpa [Addr.add] using this
  · have := h i hi
    unfold Addr.add at this
    split at this
    · simp_all
    · exact this

theorem list_of_fn {α : Type} (n : Nat) (d : α) (f : Nat → α) : ∃ l : List α, l.length = n ∧ ∀ i, i < n → l.getD i d = f i :=
  ⟨(List.range n).map f, by simp, fun i hi => by simp [hi]⟩

theorem open_nums {t e : TypeId} {A : Option Addr} {n cap : Nat} {d : DataW H} {p : List MemPlace} (ht : P.underlying t = some (.slice e)) (he : P.underlying e = some (.int .i64)) (hc : P.cellsOf e = 1)
    (h : DataW.Trod enc P w 0 (fun _ => true) true t (.slice A n cap) d p) : ∃ ns, Nums w A n ns ∧ (∀ m ∈ ns, I64 m) ∧ n ≤ maxLen := by
  obtain ⟨fuel, hf⟩ := h
  rcases Deep.open_slice1 ht hc hf with ⟨hcs, _⟩ | ⟨a, len, cap', m, k, V, D, Pl, hcs, _, hl, hm, hmm, _, hx⟩
  · simp [Value.cells] at hcs
    obtain ⟨rfl, rfl, rfl⟩ := hcs
    exact ⟨[], ⟨rfl, fun h => absurd h (by omega)⟩, by simp, by unfold maxLen; omega⟩
  · simp [Value.cells] at hcs
    obtain ⟨rfl, rfl, rfl⟩ := hcs
    simp at hmm
    subst hmm
    have hv : ∀ i, i < n → ∃ z : Int, V i = .int .i64 z ∧ I64 z := fun i hi => by
      obtain ⟨z, h1, _, h3⟩ := DataW.trod_int he (hx i (by omega)).2
      exact ⟨z, by simpa using h1, i64_of_wf h3⟩
    obtain ⟨f, hf'⟩ := Deep.choose_lt (α := Int) (p := fun i z => V i = .int .i64 z ∧ I64 z) hv
    obtain ⟨ns, hlen, hns⟩ := list_of_fn n 0 f
    refine ⟨ns, ⟨hlen, fun hn => ?_⟩, fun x hx' => ?_, by omega⟩
    · obtain ⟨b, off, rfl, hb, hcell⟩ := row_spot hn (fun i hi => (hx i (by omega)).1)
      exact ⟨b, off, rfl, hb, fun j hj => by rw [hcell j hj, (hf' j hj).1, hns j hj]⟩
    · obtain ⟨i, hi, rfl⟩ := List.getElem_of_mem hx'
      have h1 := hns i (by omega)
      have h2 := (hf' i (by omega)).2
      have h3 : ns.getD i 0 = ns[i] := by simp [hi]
      rw [← h3, h1]
      exact h2

theorem getD_map_take (ss : List ByteArray) (n j : Nat) (hj : j < n) (hj' : j < ss.length) : ss.getD j ByteArray.empty = ⟨(((ss.take n).map fun s => s.data.toList).getD j []).toArray⟩ := by
  have h1 : ss.getD j ByteArray.empty = ss[j] := by rw [List.getD_eq_getElem?_getD, List.getElem?_eq_getElem hj']; rfl
  have h2 : ((ss.take n).map fun s => s.data.toList).getD j [] = ss[j].data.toList := by
    rw [List.getD_eq_getElem?_getD, List.getElem?_map, List.getElem?_take, if_pos hj, List.getElem?_eq_getElem hj']; rfl
  rw [h1, h2]

theorem open_strs {t e : TypeId} {A : Option Addr} {n cap : Nat} {d : DataW H} {p : List MemPlace} (ht : P.underlying t = some (.slice e)) (he : P.underlying e = some .string) (hc : P.cellsOf e = 1)
    (h : DataW.Trod enc P w 0 (fun _ => true) true t (.slice A n cap) d p) :
    ∃ ss, Strs w A n ss ∧ (∀ s ∈ ss, s.length ≤ maxLen) ∧ n ≤ maxLen ∧ (d = .nil ∧ ss = [] ∨ ∃ sp, d = .slice (ss.map fun s => .lit (.string s)) sp) := by
  obtain ⟨fuel, hf⟩ := h
  rcases open_strings ht he hc hf with ⟨hcs, hx⟩ | ⟨a, len, cap', ss, hcs, _, hl, hm, hz, hx, hcell, hws⟩
  · simp [Value.cells] at hcs
    obtain ⟨rfl, rfl, rfl⟩ := hcs
    refine ⟨[], ⟨rfl, fun h => absurd h (by omega)⟩, by simp, by unfold maxLen; omega, .inl ⟨?_, rfl⟩⟩
    injection hx
  · simp [Value.cells] at hcs
    obtain ⟨rfl, rfl, rfl⟩ := hcs
    simp at hz
    refine ⟨(ss.take n).map fun s => s.data.toList, ⟨by simp; omega, fun hn => ?_⟩, fun s hs => ?_, by omega, .inr ⟨strs (ss.drop n), ?_⟩⟩
    · obtain ⟨b, off, rfl, hb, hc'⟩ := row_spot hn (fun i hi => hcell i (by omega))
      refine ⟨b, off, rfl, hb, fun j hj => ?_⟩
      rw [hc' j hj]
      have hj' : j < ss.length := by omega
      exact congrArg (fun x => some (Value.string x)) (getD_map_take ss n j hj hj')
    · simp only [List.mem_map] at hs
      obtain ⟨s', hs', rfl⟩ := hs
      rw [Array.length_toList]
      exact hws s' (List.mem_of_mem_take hs')
    · injection hx with h1 _
      rw [h1]
      simp only [strs, List.map_map]
      rfl

theorem open_bools {t e : TypeId} {A : Option Addr} {n cap : Nat} {d : DataW H} {p : List MemPlace} (ht : P.underlying t = some (.slice e)) (he : P.underlying e = some .bool) (hc : P.cellsOf e = 1)
    (h : DataW.Trod enc P w 0 (fun _ => true) true t (.slice A n cap) d p) : ∃ bs, Bools w A n bs ∧ n ≤ maxLen := by
  obtain ⟨fuel, hf⟩ := h
  rcases Deep.open_slice1 ht hc hf with ⟨hcs, _⟩ | ⟨a, len, cap', m, k, V, D, Pl, hcs, _, hl, hm, hmm, _, hx⟩
  · simp [Value.cells] at hcs
    obtain ⟨rfl, rfl, rfl⟩ := hcs
    exact ⟨[], ⟨rfl, fun h => absurd h (by omega)⟩, by unfold maxLen; omega⟩
  · simp [Value.cells] at hcs
    obtain ⟨rfl, rfl, rfl⟩ := hcs
    simp at hmm
    subst hmm
    have hv : ∀ i, i < n → ∃ z : Bool, V i = .bool z := fun i hi => by
      obtain ⟨z, h1, _⟩ := DataW.trod_bool he (hx i (by omega)).2
      exact ⟨z, by simpa using h1⟩
    obtain ⟨f, hf'⟩ := Deep.choose_lt (α := Bool) (p := fun i z => V i = .bool z) hv
    obtain ⟨bs, hlen, hns⟩ := list_of_fn n false f
    refine ⟨bs, ⟨hlen, fun hn => ?_⟩, by omega⟩
    obtain ⟨b, off, rfl, hb, hcell⟩ := row_spot hn (fun i hi => (hx i (by omega)).1)
    exact ⟨b, off, rfl, hb, fun j hj => by rw [hcell j hj, hf' j hj, hns j hj]⟩

theorem str_list (s : ByteArray) : ∃ l : List UInt8, s = ⟨l.toArray⟩ := ⟨s.data.toList, by simp⟩
end
end Go.Proofs.Yteehccklnidofaa
