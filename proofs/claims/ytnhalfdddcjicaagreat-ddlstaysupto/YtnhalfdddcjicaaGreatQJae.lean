/- Arguments opened: what a walk is told of a slice of numbers, strings or bools, out of its reading. -/
/- Arguments opened: a value, a row of values. -/
/- Expressions in memory; an argument that is one opened; columns. -/
import Derived.Test.YtnhalfdddcjicaaGreatQJaa
import Derived.ProofKit
import Derived.OpenShut
import Derived.ShutString
import Derived.ChangeOld
import Derived.SliceStrings
import Derived.Deep.Slices
import Derived.Test.YtnhalfdddcjicaaGreatQJac
import Derived.Deep.Strs
import Derived.Test.YtnhalfdddcjicaaGreatRows
import Derived.WalkKit
import Derived.Test.YtnhalfdddcjicaaGreatQJad
namespace Go.Proofs.YtnhalfdddcjicaaGreat
open Go.ChangeShapes Go.WideShapes Go.ChangeAt Go.RowKit

def Strs (w : World) (A : Option Addr) (n : Nat) (ss : List (List UInt8)) : Prop :=
  ss.length = n ∧ (0 < n → ∃ b off, A = some ⟨b, off, none⟩ ∧ b < w.heap.size ∧ ∀ j, j < n → w.cell? ⟨b, off + j, none⟩ = some (.string ⟨(ss.getD j []).toArray⟩))
def Bools (w : World) (A : Option Addr) (n : Nat) (bs : List Bool) : Prop :=
  bs.length = n ∧ (0 < n → ∃ b off, A = some ⟨b, off, none⟩ ∧ b < w.heap.size ∧ ∀ j, j < n → w.cell? ⟨b, off + j, none⟩ = some (.bool (bs.getD j false)))

theorem i64_of_wf {n : Int} (h : (Lit.int .i64 n).wf = true) : I64 n := by
  simpa [Lit.wf, IntKind.min, IntKind.max, IntKind.signed, IntKind.bits, I64] using h

section
variable {H : Type} {enc : TypeId × Value → H} {P : Program} {w : World}

theorem row_spot {a : Addr} {n : Nat} {V : Nat → Value} (hn : 0 < n) (h : ∀ i, i < n → w.cell? (a.add i) = some (V i)) :
    ∃ b off, a = ⟨b, off, none⟩ ∧ b < w.heap.size ∧ ∀ i, i < n → w.cell? ⟨b, off + i, none⟩ = some (V i) := by
  obtain ⟨b, off, spot⟩ := a
  have hc := h 0 hn
  have hspot : spot = none := by simpa [Addr.add] using World.cell?_spot hc
  subst hspot
  refine ⟨b, off, rfl, ?_, fun i hi => ?_⟩
  · have := World.block_lt_of_cell? w _ hc
    simpa [Addr.add] using this
  · have := h i hi
    unfold Addr.add at this
    split at this
    · simp_all
    · exact this

theorem list_of_fn {α : Type} (n : Nat) (d : α) (f : Nat → α) : ∃ l : List α, l.length = n ∧ ∀ i, i < n → l.getD i d = f i :=
  ⟨(List.range n).map f, by simp, fun i hi => by simp [hi]⟩

theorem open_nums {t e : TypeId} {A : Option Addr} {n cap : Nat} {d : DataW H} {p : List MemPlace} (ht : P.underlying t = some (.slice e)) (he : P.underlying e = some (.int .i64)) (hc : P.cellsOf e = 1)
    (h : DataW.Trod enc P w 0 (fun _ => true) true t (.slice A n cap) d p) : ∃ ns, Nums w A n ns ∧ (∀ m ∈ ns, I64 m) ∧ n ≤ maxLen := by
  obtain ⟨fuel, hf⟩ := h
  rcases Deep.open_slice1 ht hc hf with ⟨hcs, _⟩ | ⟨a, len, cap', m, k, V, D, Pl, hcs, _, hl, hm, hmm, _, hx⟩
  · simp [Value.cells] at hcs
    obtain ⟨rfl, rfl, rfl⟩ := hcs
    exact ⟨[], ⟨rfl, fun h => absurd h (by omega)⟩, by simp, by unfold maxLen; omega⟩
  · simp [Value.cells] at hcs
    obtain ⟨rfl, rfl, rfl⟩ := hcs
    simp at hmm
    subst hmm
    have hv : ∀ i, i < n → ∃ z : Int, V i = .int .i64 z ∧ I64 z := fun i hi => by
      obtain ⟨z, h1, _, h3⟩ := DataW.trod_int he (hx i (by omega)).2
      exact ⟨z, by simpa using h1, i64_of_wf h3⟩
    obtain ⟨f, hf'⟩ := Deep.choose_lt (α := Int) (p := fun i z => V i = .int .i64 z ∧ I64 z) hv
    obtain ⟨ns, hlen, hns⟩ := list_of_fn n 0 f
    refine ⟨ns, ⟨hlen, fun hn => ?_⟩, fun x hx' => ?_, by omega⟩
    · obtain ⟨b, off, rfl, hb, hcell⟩ := row_spot hn (fun i hi => (hx i (by omega)).1)
      exact ⟨b, off, rfl, hb, fun j hj => by rw [hcell j hj, (hf' j hj).1, hns j hj]⟩
    · obtain ⟨i, hi, rfl⟩ := List.getElem_of_mem hx'
      have h1 := hns i (by omega)
      have h2 := (hf' i (by omega)).2
      have h3 : ns.getD i 0 = ns[i] := by simp [hi]
      rw [← h3, h1]
      exact h2

theorem getD_map_take (ss : List ByteArray) (n j : Nat) (hj : j < n) (hj' : j < ss.length) : ss.getD j ByteArray.empty = ⟨(((ss.take n).map fun s => s.data.toList).getD j []).toArray⟩ := by
  have h1 : ss.getD j ByteArray.empty = ss[j] := by rw [List.getD_eq_getElem?_getD, List.getElem?_eq_getElem hj']; rfl
  have h2 : ((ss.take n).map fun s => s.data.toList).getD j [] = ss[j].data.toList := by
    rw [List.getD_eq_getElem?_getD, List.getElem?_map, List.getElem?_take, if_pos hj, List.getElem?_eq_getElem hj']; rfl
  rw [h1, h2]

theorem open_strs {t e : TypeId} {A : Option Addr} {n cap : Nat} {d : DataW H} {p : List MemPlace} (ht : P.underlying t = some (.slice e)) (he : P.underlying e = some .string) (hc : P.cellsOf e = 1)
    (h : DataW.Trod enc P w 0 (fun _ => true) true t (.slice A n cap) d p) :
    ∃ ss, Strs w A n ss ∧ (∀ s ∈ ss, s.length ≤ maxLen) ∧ n ≤ maxLen ∧ (d = .nil ∧ ss = [] ∨ ∃ sp, d = .slice (ss.map fun s => .lit (.string s)) sp) := by
  obtain ⟨fuel, hf⟩ := h
  rcases open_strings ht he hc hf with ⟨hcs, hx⟩ | ⟨a, len, cap', ss, hcs, _, hl, hm, hz, hx, hcell, hws⟩
  · simp [Value.cells] at hcs
    obtain ⟨rfl, rfl, rfl⟩ := hcs
    refine ⟨[], ⟨rfl, fun h => absurd h (by omega)⟩, by simp, by unfold maxLen; omega, .inl ⟨?_, rfl⟩⟩
    injection hx
  · simp [Value.cells] at hcs
    obtain ⟨rfl, rfl, rfl⟩ := hcs
    simp at hz
    refine ⟨(ss.take n).map fun s => s.data.toList, ⟨by simp; omega, fun hn => ?_⟩, fun s hs => ?_, by omega, .inr ⟨strs (ss.drop n), ?_⟩⟩
    · obtain ⟨b, off, rfl, hb, hc'⟩ := row_spot hn (fun i hi => hcell i (by omega))
      refine ⟨b, off, rfl, hb, fun j hj => ?_⟩
      rw [hc' j hj]
      have hj' : j < ss.length := by omega
      exact congrArg (fun x => some (Value.string x)) (getD_map_take ss n j hj hj')
    · simp only [List.mem_map] at hs
      obtain ⟨s', hs', rfl⟩ := hs
      rw [Array.length_toList]
      exact hws s' (List.mem_of_mem_take hs')
    · injection hx with h1 _
      rw [h1]
      simp only [strs, List.map_map]
      rfl

theorem open_bools {t e : TypeId} {A : Option Addr} {n cap : Nat} {d : DataW H} {p : List MemPlace} (ht : P.underlying t = some (.slice e)) (he : P.underlying e = some .bool) (hc : P.cellsOf e = 1)
    (h : DataW.Trod enc P w 0 (fun _ => true) true t (.slice A n cap) d p) : ∃ bs, Bools w A n bs ∧ n ≤ maxLen := by
  obtain ⟨fuel, hf⟩ := h
  rcases Deep.open_slice1 ht hc hf with ⟨hcs, _⟩ | ⟨a, len, cap', m, k, V, D, Pl, hcs, _, hl, hm, hmm, _, hx⟩
  · simp [Value.cells] at hcs
    obtain ⟨rfl, rfl, rfl⟩ := hcs
    exact ⟨[], ⟨rfl, fun h => absurd h (by omega)⟩, by unfold maxLen; omega⟩
  · simp [Value.cells] at hcs
    obtain ⟨rfl, rfl, rfl⟩ := hcs
    simp at hmm
    subst hmm
    have hv : ∀ i, i < n → ∃ z : Bool, V i = .bool z := fun i hi => by
      obtain ⟨z, h1, _⟩ := DataW.trod_bool he (hx i (by omega)).2
      exact ⟨z, by simpa using h1⟩
    obtain ⟨f, hf'⟩ := Deep.choose_lt (α := Bool) (p := fun i z => V i = .bool z) hv
    obtain ⟨bs, hlen, hns⟩ := list_of_fn n false f
    refine ⟨bs, ⟨hlen, fun hn => ?_⟩, by omega⟩
    obtain ⟨b, off, rfl, hb, hcell⟩ := row_spot hn (fun i hi => (hx i (by omega)).1)
    exact ⟨b, off, rfl, hb, fun j hj => by rw [hcell j hj, hf' j hj, hns j hj]⟩

theorem str_list (s : ByteArray) : ∃ l : List UInt8, s = ⟨l.toArray⟩ := ⟨s.data.toList, by simp⟩
end
end Go.Proofs.YtnhalfdddcjicaaGreat

namespace Go.Proofs.YtnhalfdddcjicaaGreat
open Go.ChangeShapes Go.WideShapes Go.ChangeAt Go.RowKit

/-- The slice '.slice A n _' holds the values vs. -/
def Vals (w : World) (A : Option Addr) (n : Nat) (vs : List Vl) : Prop :=
  vs.length = n ∧ (0 < n → ∃ b off, A = some ⟨b, off, none⟩ ∧ b < w.heap.size ∧ ∀ j, j < n →
    w.cell? ⟨b, off + j * 3, none⟩ = some (.int .i64 (vs.getD j default).kind) ∧ w.cell? ⟨b, off + j * 3 + 1, none⟩ = some (.int .i64 (vs.getD j default).num) ∧ w.cell? ⟨b, off + j * 3 + 2, none⟩ = some (.string ⟨(vs.getD j default).text.toArray⟩))

/-- The type t is a struct of two numbers and a text. -/
structure IsVal (P : Program) (t : TypeId) (f0 f1 f2 : Field) : Prop where
  ht : P.underlying t = some (.struct #[f0, f1, f2])
  ce : P.cellsOf t = 3
  o0 : f0.offset = 0
  o1 : f1.offset = 1
  o2 : f2.offset = 2
  c0 : P.cellsOf f0.type = 1
  c1 : P.cellsOf f1.type = 1
  c2 : P.cellsOf f2.type = 1
  u0 : P.underlying f0.type = some (.int .i64)
  u1 : P.underlying f1.type = some (.int .i64)
  u2 : P.underlying f2.type = some .string

section
variable {H : Type} {enc : TypeId × Value → H} {P : Program} {w : World} {base : Nat} {sp : Nat → Bool} {held : Bool}
theorem open_cells {t : TypeId} {f0 f1 f2 : Field} (V : IsVal P t f0 f1 f2) {fuel : Nat} {cs : List Value} {x : DataW H × List MemPlace} (h : DataW.trod enc P w base sp held fuel t cs = some x) :
    ∃ v : Vl, cs = [.int .i64 v.kind, .int .i64 v.num, .string ⟨v.text.toArray⟩] ∧ v.Ok := by
  obtain ⟨y0, y1, y2, m, _, hlen, h0, h1, h2⟩ := Deep.trod_struct3 V.ht h
  rw [V.ce] at hlen
  match cs, hlen with
  | [c0, c1, c2], _ =>
    rw [V.o0, V.c0] at h0
    rw [V.o1, V.c1] at h1
    rw [V.o2, V.c2] at h2
    obtain ⟨k, e0, _, w0⟩ := DataW.trod_int V.u0 h0
    obtain ⟨n, e1, _, w1⟩ := DataW.trod_int V.u1 h1
    obtain ⟨s, e2, _, w2⟩ := DataW.trod_string V.u2 h2
    simp at e0 e1 e2
    subst e0 e1 e2
    obtain ⟨l, rfl⟩ := str_list s
    exact ⟨⟨k, n, l⟩, rfl, i64_of_wf w0, i64_of_wf w1, by simpa [ByteArray.size] using w2⟩

theorem open_val {t : TypeId} {f0 f1 f2 : Field} (V : IsVal P t f0 f1 f2) {r : Reach} {b0 : Nat} {v : Value} {d : DataW H} {ps : List MemPlace} (hval : Value.okWide P w r b0 t v) (h : DataW.Trod enc P w base sp held t v d ps) :
    ∃ x : Vl, v = x.val ∧ x.Ok := by
  obtain ⟨cs, rfl, hsz⟩ := okWide_struct V.ht hval
  obtain ⟨fuel, hf⟩ := h
  obtain ⟨x, h1, h2⟩ := open_cells V hf
  refine ⟨x, ?_, h2⟩
  obtain ⟨l⟩ := cs
  simp [Value.cells] at h1
  rw [h1]; rfl

theorem open_vals {t e : TypeId} {f0 f1 f2 : Field} (V : IsVal P e f0 f1 f2) {A : Option Addr} {n cap : Nat} {d : DataW H} {p : List MemPlace} (ht : P.underlying t = some (.slice e))
    (h : DataW.Trod enc P w 0 (fun _ => true) true t (.slice A n cap) d p) : ∃ vs, Vals w A n vs ∧ (∀ v ∈ vs, v.Ok) ∧ n ≤ maxLen := by
  obtain ⟨fuel, hf⟩ := h
  rcases Deep.open_slice ht hf with ⟨hcs, _⟩ | ⟨a, len, cap', m, k, D, Pl, hcs, _, hl, hm, hmm, _, hx⟩
  · simp [Value.cells] at hcs
    obtain ⟨rfl, rfl, rfl⟩ := hcs
    exact ⟨[], ⟨rfl, fun h => absurd h (by omega)⟩, by simp, by unfold maxLen; omega⟩
  · simp [Value.cells] at hcs
    obtain ⟨rfl, rfl, rfl⟩ := hcs
    simp at hmm
    subst hmm
    rw [V.ce] at hx
    have hv : ∀ i, i < n → ∃ v : Vl, (w.cell? (a.add (i * 3)) = some (.int .i64 v.kind) ∧ w.cell? (a.add (i * 3 + 1)) = some (.int .i64 v.num) ∧ w.cell? (a.add (i * 3 + 2)) = some (.string ⟨v.text.toArray⟩)) ∧ v.Ok := fun i hi => by
      obtain ⟨cs', h1, h2⟩ := hx i (by omega)
      obtain ⟨v, rfl, hok⟩ := open_cells V h2
      obtain ⟨_, _, hcell⟩ := World.cells?_some h1
      have q0 := hcell 0 (by omega)
      have q1 := hcell 1 (by omega)
      have q2 := hcell 2 (by omega)
      rw [Deep.add_add] at q0 q1 q2
      exact ⟨v, ⟨by simpa using q0, by simpa using q1, by simpa using q2⟩, hok⟩
    obtain ⟨f, hf'⟩ := Deep.choose_lt hv
    obtain ⟨vs, hlen, hvs⟩ := list_of_fn n default f
    refine ⟨vs, ⟨hlen, fun hn => ?_⟩, fun x hx' => ?_, by omega⟩
    · obtain ⟨b, off, spot⟩ := a
      have hc := (hf' 0 hn).1.1
      have hspot : spot = none := by simpa [Addr.add] using World.cell?_spot hc
      subst hspot
      refine ⟨b, off, rfl, ?_, fun j hj => ?_⟩
      · have := World.block_lt_of_cell? w _ hc
        simpa [Addr.add] using this
      · obtain ⟨⟨a0, a1, a2⟩, _⟩ := hf' j hj
        rw [hvs j hj]
        have e : ∀ i, (⟨b, off, none⟩ : Addr).add i = ⟨b, off + i, none⟩ := fun i => by unfold Addr.add; split <;> simp_all
        rw [e] at a0 a1 a2
        exact ⟨a0, by rw [Nat.add_assoc]; exact a1, by rw [Nat.add_assoc]; exact a2⟩
    · obtain ⟨i, hi, rfl⟩ := List.getElem_of_mem hx'
      have h1 := hvs i (by omega)
      have h2 := (hf' i (by omega)).2
      have h3 : vs.getD i default = vs[i] := by simp [hi]
      rw [← h3, h1]
      exact h2
theorem Vals.below {w w' : World} {A : Option Addr} {n : Nat} {vs : List Vl} (h : Vals w A n vs) (hb : Below w.heap.size w w') : Vals w' A n vs :=
  ⟨h.1, fun hn => by
    obtain ⟨b, off, h1, h2, h3⟩ := h.2 hn
    refine ⟨b, off, h1, Nat.lt_of_lt_of_le h2 hb.size, fun j hj => ?_⟩
    obtain ⟨a0, a1, a2⟩ := h3 j hj
    exact ⟨(hb.cell (p := ⟨b, off + j * 3, none⟩) h2).trans a0, (hb.cell (p := ⟨b, off + j * 3 + 1, none⟩) h2).trans a1, (hb.cell (p := ⟨b, off + j * 3 + 2, none⟩) h2).trans a2⟩⟩
end
theorem isVal_ex : ∃ f0 f1 f2, IsVal Tryz.prog 27 f0 f1 f2 :=
  ⟨_, _, _, Tryz.underlying27, by kernel_rfl, rfl, rfl, rfl, by kernel_rfl, by kernel_rfl, by kernel_rfl, Tryz.underlying3, Tryz.underlying3, Tryz.underlying9⟩
end Go.Proofs.YtnhalfdddcjicaaGreat

namespace Go.Proofs.YtnhalfdddcjicaaGreat
open Go.ChangeShapes Go.WideShapes Go.ChangeAt Go.RowKit

/-- The six cells of an expression lie at that place. -/
def CellsE (w : World) (b o : Nat) (e : Ex) : Prop :=
  w.cell? ⟨b, o, none⟩ = some (.int .i64 e.op) ∧ w.cell? ⟨b, o + 1, none⟩ = some (.int .i64 e.col) ∧ w.cell? ⟨b, o + 2, none⟩ = some (.int .i64 e.v.kind) ∧
  w.cell? ⟨b, o + 3, none⟩ = some (.int .i64 e.v.num) ∧ w.cell? ⟨b, o + 4, none⟩ = some (.string ⟨e.v.text.toArray⟩) ∧ w.cell? ⟨b, o + 5, none⟩ = some (.slice e.A e.n e.cap)
/-- The operands of an expression lie in memory, and theirs. -/
def InE (w : World) : Ex → Prop
  | .nil => False
  | .mk op col v A n _ arg => I64 op ∧ I64 col ∧ v.Ok ∧ n ≤ maxLen ∧ (0 < n → ∃ b off, A = some ⟨b, off, none⟩ ∧ b < w.heap.size ∧ ∀ j, j < n → CellsE w b (off + j * 6) (arg j) ∧ InE w (arg j))

theorem CellsE.keep {w w' : World} {b o : Nat} {e : Ex} (h : CellsE w b o e) (k : ∀ i, w'.cell? ⟨b, i, none⟩ = w.cell? ⟨b, i, none⟩) : CellsE w' b o e := by
  obtain ⟨h0, h1, h2, h3, h4, h5⟩ := h
  exact ⟨(k _).trans h0, (k _).trans h1, (k _).trans h2, (k _).trans h3, (k _).trans h4, (k _).trans h5⟩
theorem InE.below {w w' : World} (hb : Below w.heap.size w w') : ∀ {e : Ex}, InE w e → InE w' e
  | .nil, h => h
  | .mk op col v A n cap arg, h => by
    rw [InE] at h ⊢
    obtain ⟨h1, h2, h3, h4, h5⟩ := h
    refine ⟨h1, h2, h3, h4, fun hn => ?_⟩
    obtain ⟨b, off, e1, e2, e3⟩ := h5 hn
    exact ⟨b, off, e1, Nat.lt_of_lt_of_le e2 hb.size, fun j hj => ⟨(e3 j hj).1.keep fun i => hb.cell (p := ⟨b, i, none⟩) e2, InE.below hb (e3 j hj).2⟩⟩

section
variable {H : Type} {enc : TypeId × Value → H} {P : Program} {w : World} {base : Nat}
/-- The type t is the struct of expressions, ts the slice of these, tv that of values. -/
structure IsEx (P : Program) (t ts tv : TypeId) (f0 f1 f2 f3 : Field) : Prop where
  ht : P.underlying t = some (.struct #[f0, f1, f2, f3])
  ce : P.cellsOf t = 6
  o0 : f0.offset = 0
  o1 : f1.offset = 1
  o2 : f2.offset = 2
  o3 : f3.offset = 5
  c0 : P.cellsOf f0.type = 1
  c1 : P.cellsOf f1.type = 1
  c2 : P.cellsOf f2.type = 3
  c3 : P.cellsOf f3.type = 1
  u0 : P.underlying f0.type = some (.int .i64)
  u1 : P.underlying f1.type = some (.int .i64)
  t2 : f2.type = tv
  u3 : P.underlying f3.type = some (.slice t)

theorem open_ex {t ts tv : TypeId} {f0 f1 f2 f3 g0 g1 g2 : Field} (E : IsEx P t ts tv f0 f1 f2 f3) (V : IsVal P tv g0 g1 g2) : ∀ (fuel : Nat) {cs : List Value} {x : DataW H × List MemPlace},
    DataW.trod enc P w 0 (fun _ => true) true fuel t cs = some x → ∃ e : Ex, cs = [.int .i64 e.op, .int .i64 e.col, .int .i64 e.v.kind, .int .i64 e.v.num, .string ⟨e.v.text.toArray⟩, .slice e.A e.n e.cap] ∧ InE w e := by
  intro fuel
  induction fuel using Nat.strongRecOn with
  | _ fuel ih =>
    intro cs x h
    obtain ⟨xs, m, hm, _, hlen, hl, hf⟩ := DataW.trod_struct E.ht h
    rw [E.ce] at hlen
    match xs, hl with
    | [y0, y1, y2, y3], _ =>
      match cs, hlen with
      | [c0, c1, c2, c3, c4, c5], _ =>
        have h0 := hf 0 f0 rfl
        have h1 := hf 1 f1 rfl
        have h2 := hf 2 f2 rfl
        have h3 := hf 3 f3 rfl
        rw [E.o0, E.c0] at h0
        rw [E.o1, E.c1] at h1
        rw [E.o2, E.c2, E.t2] at h2
        rw [E.o3, E.c3] at h3
        simp only [List.drop_zero, List.drop_succ_cons, List.take_succ_cons, List.take_zero] at h0 h1 h2 h3
        obtain ⟨a0, e0, _, w0⟩ := DataW.trod_int E.u0 h0
        obtain ⟨a1, e1, _, w1⟩ := DataW.trod_int E.u1 h1
        obtain ⟨v, e2, hv⟩ := open_cells V h2
        simp only [List.cons.injEq, and_true] at e0 e1 e2
        subst e0 e1
        obtain ⟨rfl, rfl, rfl⟩ := e2
        rcases DataW.trod_slice E.u3 h3 with ⟨hcs, _⟩ | ⟨a, len, cap, elems, rest, q, hq, hcs, _, _, hl, hmx, hlen, hel, _, _⟩
        · simp only [List.cons.injEq, and_true] at hcs
          subst hcs
          refine ⟨.mk a0 a1 v none 0 0 (fun _ => .nil), rfl, ?_⟩
          rw [InE]
          exact ⟨i64_of_wf w0, i64_of_wf w1, hv, by unfold maxLen; omega, fun hh => absurd hh (by omega)⟩
        · simp only [List.cons.injEq, and_true] at hcs
          subst hcs
          rw [E.ce] at hel
          have hv' : ∀ i, i < len → ∃ e : Ex, (w.cell? (a.add (i * 6)) = some (.int .i64 e.op) ∧ w.cell? (a.add (i * 6 + 1)) = some (.int .i64 e.col) ∧ w.cell? (a.add (i * 6 + 2)) = some (.int .i64 e.v.kind) ∧
              w.cell? (a.add (i * 6 + 3)) = some (.int .i64 e.v.num) ∧ w.cell? (a.add (i * 6 + 4)) = some (.string ⟨e.v.text.toArray⟩) ∧ w.cell? (a.add (i * 6 + 5)) = some (.slice e.A e.n e.cap)) ∧ InE w e := fun i hi => by
            have key := hel i hi
            rw [List.getElem?_eq_getElem (by omega)] at key
            obtain ⟨cs', h1, h2⟩ := Option.bind_eq_some_iff.1 key
            obtain ⟨e, rfl, hin⟩ := ih q (by omega) h2
            obtain ⟨_, _, hcell⟩ := World.cells?_some h1
            have q0 := hcell 0 (by omega)
            have q1 := hcell 1 (by omega)
            have q2 := hcell 2 (by omega)
            have q3 := hcell 3 (by omega)
            have q4 := hcell 4 (by omega)
            have q5 := hcell 5 (by omega)
            rw [Deep.add_add] at q0 q1 q2 q3 q4 q5
            exact ⟨e, ⟨by simpa using q0, by simpa using q1, by simpa using q2, by simpa using q3, by simpa using q4, by simpa using q5⟩, hin⟩
          obtain ⟨f, hf'⟩ : ∃ f : Nat → Ex, ∀ i, i < len → _ := Deep.choose_lt hv'
          refine ⟨.mk a0 a1 v (some a) len cap f, rfl, ?_⟩
          rw [InE]
          refine ⟨i64_of_wf w0, i64_of_wf w1, hv, by omega, fun hn => ?_⟩
          obtain ⟨b, off, spot⟩ := a
          have hc := (hf' 0 hn).1.1
          have hspot : spot = none := by simpa [Addr.add] using World.cell?_spot hc
          subst hspot
          refine ⟨b, off, rfl, ?_, fun j hj => ?_⟩
          · have := World.block_lt_of_cell? w _ hc
            simpa [Addr.add] using this
          · obtain ⟨⟨p0, p1, p2, p3, p4, p5⟩, hin⟩ := hf' j hj
            have e : ∀ i, (⟨b, off, none⟩ : Addr).add i = ⟨b, off + i, none⟩ := fun i => by unfold Addr.add; split <;> simp_all
            rw [e] at p0 p1 p2 p3 p4 p5
            refine ⟨⟨p0, ?_, ?_, ?_, ?_, ?_⟩, hin⟩
            · rw [Nat.add_assoc]; exact p1
            · rw [Nat.add_assoc]; exact p2
            · rw [Nat.add_assoc]; exact p3
            · rw [Nat.add_assoc]; exact p4
            · rw [Nat.add_assoc]; exact p5

/-- An argument that is an expression. -/
theorem open_expr {t ts tv : TypeId} {f0 f1 f2 f3 g0 g1 g2 : Field} (E : IsEx P t ts tv f0 f1 f2 f3) (V : IsVal P tv g0 g1 g2) {r : Reach} {b0 : Nat} {v : Value} {d : DataW H} {ps : List MemPlace}
    (hval : Value.okWide P w r b0 t v) (h : DataW.Trod enc P w 0 (fun _ => true) true t v d ps) : ∃ e : Ex, v = e.val ∧ InE w e := by
  obtain ⟨cs, rfl, hsz⟩ := okWide_struct E.ht hval
  obtain ⟨fuel, hf⟩ := h
  obtain ⟨e, h1, h2⟩ := open_ex E V fuel hf
  refine ⟨e, ?_, h2⟩
  obtain ⟨l⟩ := cs
  simp [Value.cells] at h1
  rw [h1]; rfl

/-- The kinds of columns: the slice '.slice A n _' holds columns of these kinds. -/
def Cols (w : World) (A : Option Addr) (n : Nat) (ks : List Int) : Prop :=
  ks.length = n ∧ (0 < n → ∃ b off, A = some ⟨b, off, none⟩ ∧ b < w.heap.size ∧ ∀ j, j < n → w.cell? ⟨b, off + j * 6 + 1, none⟩ = some (.int .i64 (ks.getD j 0)))
theorem Cols.below {w w' : World} {A : Option Addr} {n : Nat} {ks : List Int} (h : Cols w A n ks) (hb : Below w.heap.size w w') : Cols w' A n ks :=
  ⟨h.1, fun hn => by
    obtain ⟨b, off, h1, h2, h3⟩ := h.2 hn
    exact ⟨b, off, h1, Nat.lt_of_lt_of_le h2 hb.size, fun j hj => (hb.cell (p := ⟨b, off + j * 6 + 1, none⟩) h2).trans (h3 j hj)⟩⟩
/-- The type t is the struct of columns: its second cell is a number. -/
structure IsCol (P : Program) (t : TypeId) (fs : Array Field) (f : Field) : Prop where
  ht : P.underlying t = some (.struct fs)
  ce : P.cellsOf t = 6
  hf : fs[1]? = some f
  hs : fs.size = 6
  o1 : f.offset = 1
  c1 : P.cellsOf f.type = 1
  u1 : P.underlying f.type = some (.int .i64)
theorem open_cols {t e : TypeId} {fs : Array Field} {f : Field} (V : IsCol P e fs f) {A : Option Addr} {n cap : Nat} {d : DataW H} {p : List MemPlace} (ht : P.underlying t = some (.slice e))
    (h : DataW.Trod enc P w 0 (fun _ => true) true t (.slice A n cap) d p) : ∃ ks, Cols w A n ks ∧ (∀ k ∈ ks, I64 k) ∧ n ≤ maxLen := by
  obtain ⟨fuel, hf⟩ := h
  rcases Deep.open_slice ht hf with ⟨hcs, _⟩ | ⟨a, len, cap', m, k, D, Pl, hcs, _, hl, hm, hmm, _, hx⟩
  · simp [Value.cells] at hcs
    obtain ⟨rfl, rfl, rfl⟩ := hcs
    exact ⟨[], ⟨rfl, fun h => absurd h (by omega)⟩, by simp, by unfold maxLen; omega⟩
  · simp [Value.cells] at hcs
    obtain ⟨rfl, rfl, rfl⟩ := hcs
    simp at hmm
    subst hmm
    rw [V.ce] at hx
    have hv : ∀ i, i < n → ∃ v : Int, (w.cell? (a.add (i * 6 + 1)) = some (.int .i64 v) ∧ ∃ c, w.cell? (a.add (i * 6)) = some c) ∧ I64 v := fun i hi => by
      obtain ⟨cs', h1, h2⟩ := hx i (by omega)
      obtain ⟨_, hlen, hcell⟩ := World.cells?_some h1
      obtain ⟨xs, m', hm', _, hlen', hl', hf'⟩ := DataW.trod_struct V.ht h2
      have h3 := hf' 1 f V.hf
      rw [V.o1, V.c1, List.getElem?_eq_getElem (by rw [hl', V.hs]; omega)] at h3
      match cs', hlen with
      | [c0, c1, c2, c3, c4, c5], _ =>
        simp only [List.drop_succ_cons, List.drop_zero, List.take_succ_cons, List.take_zero] at h3
        obtain ⟨x, e0, _, w0⟩ := DataW.trod_int V.u1 h3
        simp only [List.cons.injEq, and_true] at e0
        subst e0
        have q0 := hcell 0 (by omega)
        have q1 := hcell 1 (by omega)
        rw [Deep.add_add] at q0 q1
        exact ⟨x, ⟨by simpa using q1, c0, by simpa using q0⟩, i64_of_wf w0⟩
    obtain ⟨g, hg⟩ := Deep.choose_lt hv
    obtain ⟨ks, hlen, hks⟩ := list_of_fn n (0 : Int) g
    refine ⟨ks, ⟨hlen, fun hn => ?_⟩, fun x hx' => ?_, by omega⟩
    · obtain ⟨b, off, spot⟩ := a
      obtain ⟨_, hc⟩ := (hg 0 hn).1.2
      have hspot : spot = none := by simpa [Addr.add] using World.cell?_spot hc
      subst hspot
      refine ⟨b, off, rfl, ?_, fun j hj => ?_⟩
      · have := World.block_lt_of_cell? w _ hc
        simpa [Addr.add] using this
      · have a1 := (hg j hj).1.1
        rw [hks j hj]
        have e : ∀ i, (⟨b, off, none⟩ : Addr).add i = ⟨b, off + i, none⟩ := fun i => by unfold Addr.add; split <;> simp_all
        rw [e] at a1
        rw [Nat.add_assoc]; exact a1
    · obtain ⟨i, hi, rfl⟩ := List.getElem_of_mem hx'
      have h1 := hks i (by omega)
      have h2 := (hg i (by omega)).2
      have h3 : ks.getD i 0 = ks[i] := by simp [hi]
      rw [← h3, h1]
      exact h2
end
theorem isEx_ex : ∃ f0 f1 f2 f3, IsEx Tryz.prog 67 30 27 f0 f1 f2 f3 :=
  ⟨_, _, _, _, Tryz.underlying67, by kernel_rfl, rfl, rfl, rfl, rfl, by kernel_rfl, by kernel_rfl, by kernel_rfl, by kernel_rfl, Tryz.underlying3, Tryz.underlying3, rfl, Tryz.underlying30⟩
theorem isCol_ex : ∃ fs f, IsCol Tryz.prog 54 fs f :=
  ⟨_, _, Tryz.underlying54, by kernel_rfl, rfl, rfl, rfl, by kernel_rfl, Tryz.underlying3⟩
end Go.Proofs.YtnhalfdddcjicaaGreat
