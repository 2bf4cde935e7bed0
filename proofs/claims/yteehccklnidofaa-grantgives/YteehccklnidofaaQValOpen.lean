/- Arguments opened: a value, a row of values. -/
import Derived.Test.YteehccklnidofaaQOpen
import Derived.Test.YteehccklnidofaaQValM
import Derived.Deep.Strs
import Derived.Test.YteehccklnidofaaRows
import Derived.WalkKit
namespace Go.Proofs.Yteehccklnidofaa
open Go.ChangeShapes Go.WideShapes Go.ChangeAt Go.RowKit

/-- The slice '.slice A n _' holds the values vs. -/
def Vals (w : World) (A : Option Addr) (n : Nat) (vs : List Vl) : Prop :=
  vs.length = n ∧ (0 < n → ∃ b off, A = some ⟨b, off, none⟩ ∧ b < w.heap.size ∧ ∀ j, j < n →
    w.cell? ⟨b, off + j * 3, none⟩ = some (.int .i64 (vs.getD j default).kind) ∧ w.cell? ⟨b, off + j * 3 + 1, none⟩ = some (.int .i64 (vs.getD j default).num) ∧ w.cell? ⟨b, off + j * 3 + 2, none⟩ = some (.string ⟨(vs.getD j default).text.toArray⟩))

/-- The type t is a struct of two numbers and a text. -/
structure IsVal (P : Program) (t : TypeId) (f0 f1 f2 : Field) : Prop where
  ht : P.underlying t = some (.struct #[f0, f1, f2])
  ce : P.cellsOf t = 3
  o0 : f0.offset = 0
  o1 : f1.offset = 1
  o2 : f2.offset = 2
  c0 : P.cellsOf f0.type = 1
  c1 : P.cellsOf f1.type = 1
  c2 : P.cellsOf f2.type = 1
  u0 : P.underlying f0.type = some (.int .i64)
  u1 : P.underlying f1.type = some (.int .i64)
  u2 : P.underlying f2.type = some .string

section
variable {H : Type} {enc : TypeId × Value → H} {P : Program} {w : World} {base : Nat} {sp : Nat → Bool} {held : Bool}
theorem open_cells {t : TypeId} {f0 f1 f2 : Field} (V : IsVal P t f0 f1 f2) {fuel : Nat} {cs : List Value} {x : DataW H × List MemPlace} (h : DataW.trod enc P w base sp held fuel t cs = some x) :
    ∃ v : Vl, cs = [.int .i64 v.kind, .int .i64 v.num, .string ⟨v.text.toArray⟩] ∧ v.Ok := by
  obtain ⟨y0, y1, y2, m, _, hlen, h0, h1, h2⟩ := Deep.trod_struct3 V.ht h
  rw [V.ce] at hlen
  match cs, hlen with
  | [c0, c1, c2], _ =>
    rw [V.o0, V.c0] at h0
    rw [V.o1, V.c1] at h1
    rw [V.o2, V.c2] at h2
    obtain ⟨k, e0, _, w0⟩ := DataW.trod_int V.u0 h0
    obtain ⟨n, e1, _, w1⟩ := DataW.trod_int V.u1 h1
    obtain ⟨s, e2, _, w2⟩ := DataW.trod_string V.u2 h2
    simp at e0 e1 e2
    subst e0 e1 e2
    obtain ⟨l, rfl⟩ := str_list s
    exact ⟨⟨k, n, l⟩, rfl, i64_of_wf w0, i64_of_wf w1, by simpa [ByteArray.size] using w2⟩

theorem open_val {t : TypeId} {f0 f1 f2 : Field} (V : IsVal P t f0 f1 f2) {r : Reach} {b0 : Nat} {v : Value} {d : DataW H} {ps : List MemPlace} (hval : Value.okWide P w r b0 t v) (h : DataW.Trod enc P w base sp held t v d ps) :
    ∃ x : Vl, v = x.val ∧ x.Ok := by
  obtain ⟨cs, rfl, hsz⟩ := okWide_struct V.ht hval
  obtain ⟨fuel, hf⟩ := h
  obtain ⟨x, h1, h2⟩ := open_cells V hf
  refine ⟨x, ?_, h2⟩
  obtain ⟨l⟩ := cs
  simp [Value.cells] at h1
  rw [h1]; rfl

theorem open_vals {t e : TypeId} {f0 f1 f2 : Field} (V : IsVal P e f0 f1 f2) {A : Option Addr} {n cap : Nat} {d : DataW H} {p : List MemPlace} (ht : P.underlying t = some (.slice e))
    (h : DataW.Trod enc P w 0 (fun _ => true) true t (.slice A n cap) d p) : ∃ vs, Vals w A n vs ∧ (∀ v ∈ vs, v.Ok) ∧ n ≤ maxLen := by
  obtain ⟨fuel, hf⟩ := h
  rcases Deep.open_slice ht hf with ⟨hcs, _⟩ | ⟨a, len, cap', m, k, D, Pl, hcs, _, hl, hm, hmm, _, hx⟩
  · simp [Value.cells] at hcs
    obtain ⟨rfl, rfl, rfl⟩ := hcs
    exact ⟨[], ⟨rfl, fun h => absurd h (by omega)⟩, by simp, by unfold maxLen; omega⟩
  · simp [Value.cells] at hcs
    obtain ⟨rfl, rfl, rfl⟩ := hcs
    simp at hmm
    subst hmm
    rw [V.ce] at hx
    have hv : ∀ i, i < n → ∃ v : Vl, (w.cell? (a.add (i * 3)) = some (.int .i64 v.kind) ∧ w.cell? (a.add (i * 3 + 1)) = some (.int .i64 v.num) ∧ w.cell? (a.add (i * 3 + 2)) = some (.string ⟨v.text.toArray⟩)) ∧ v.Ok := fun i hi => by
      obtain ⟨cs', h1, h2⟩ := hx i (by omega)
      obtain ⟨v, rfl, hok⟩ := open_cells V h2
      obtain ⟨_, _, hcell⟩ := World.cells?_some h1
      have q0 := hcell 0 (by omega)
      have q1 := hcell 1 (by omega)
      have q2 := hcell 2 (by omega)
      rw [Deep.add_add] at q0 q1 q2
      exact ⟨v, ⟨by simpa using q0, by simpa using q1, by simpa using q2⟩, hok⟩
    obtain ⟨f, hf'⟩ := Deep.choose_lt hv
    obtain ⟨vs, hlen, hvs⟩ := list_of_fn n default f
    refine ⟨vs, ⟨hlen, fun hn => ?_⟩, fun x hx' => ?_, by omega⟩
    · obtain ⟨b, off, spot⟩ := a
      have hc := (hf' 0 hn).1.1
      have hspot : spot = none := by simpa [Addr.add] using World.cell?_spot hc
      subst hspot
      refine ⟨b, off, rfl, ?_, fun j hj => ?_⟩
      · have := World.block_lt_of_cell? w _ hc
        simpa [Addr.add] using this
      · obtain ⟨⟨a0, a1, a2⟩, _⟩ := hf' j hj
        rw [hvs j hj]
        have e : ∀ i, (⟨b, off, none⟩ : Addr).add i = ⟨b, off + i, none⟩ := fun i => by unfold Addr.add; split <;> simp_all
        rw [e] at a0 a1 a2
        exact ⟨a0, by rw [Nat.add_assoc]; exact a1, by rw [Nat.add_assoc]; exact a2⟩
    · obtain ⟨i, hi, rfl⟩ := List.getElem_of_mem hx'
      have h1 := hvs i (by omega)
      have h2 := (hf' i (by omega)).2
      have h3 : vs.getD i default = vs[i] := by simp [hi]
      rw [← h3, h1]
      exact h2
theorem Vals.below {w w' : World} {A : Option Addr} {n : Nat} {vs : List Vl} (h : Vals w A n vs) (hb : Below w.heap.size w w') : Vals w' A n vs :=
  ⟨h.1, fun hn => by
    obtain ⟨b, off, h1, h2, h3⟩ := h.2 hn
    refine ⟨b, off, h1, Nat.lt_of_lt_of_le h2 hb.size, fun j hj => ?_⟩
    obtain ⟨a0, a1, a2⟩ := h3 j hj
    exact ⟨(hb.cell (p := ⟨b, off + j * 3, none⟩) h2).trans a0, (hb.cell (p := ⟨b, off + j * 3 + 1, none⟩) h2).trans a1, (hb.cell (p := ⟨b, off + j * 3 + 2, none⟩) h2).trans a2⟩⟩
end
theorem isVal_ex : ∃ f0 f1 f2, IsVal Try.prog 59 f0 f1 f2 :=
  ⟨_, _, _, Try.underlying59, by kernel_rfl, rfl, rfl, rfl, by kernel_rfl, by kernel_rfl, by kernel_rfl, Try.underlying3, Try.underlying3, Try.underlying9⟩
end Go.Proofs.Yteehccklnidofaa
