/- Arguments opened: a row of calls (a number, a text, a number, a byte each). -/
import Derived.Test.YtmdoicemkddpgaaOpen
import Derived.Test.YtmdoicemkddpgaaDiskM
import Derived.Deep.Strs
import Derived.Test.YtmdoicemkddpgaaRows
import Derived.WalkKit
namespace Go.Proofs.Ytmdoicemkddpgaa
open Go.ChangeShapes Go.WideShapes Go.ChangeAt Go.RowKit

/-- The slice '.slice A n _' holds the calls cs. -/
def Clls (w : World) (A : Option Addr) (n : Nat) (cs : List Cl) : Prop :=
  cs.length = n ∧ (0 < n → ∃ b off, A = some ⟨b, off, none⟩ ∧ b < w.heap.size ∧ ∀ j, j < n →
    w.cell? ⟨b, off + j * 4, none⟩ = some (.int .i64 (cs.getD j default).kind) ∧ w.cell? ⟨b, off + j * 4 + 1, none⟩ = some (.string ⟨(cs.getD j default).s.toArray⟩) ∧
    w.cell? ⟨b, off + j * 4 + 2, none⟩ = some (.int .i64 (cs.getD j default).n) ∧ w.cell? ⟨b, off + j * 4 + 3, none⟩ = some (.int .u8 ((cs.getD j default).turn.toNat : Int)))

structure IsCall (P : Program) (t : TypeId) (f0 f1 f2 f3 : Field) : Prop where
  ht : P.underlying t = some (.struct #[f0, f1, f2, f3])
  ce : P.cellsOf t = 4
  o0 : f0.offset = 0
  o1 : f1.offset = 1
  o2 : f2.offset = 2
  o3 : f3.offset = 3
  c0 : P.cellsOf f0.type = 1
  c1 : P.cellsOf f1.type = 1
  c2 : P.cellsOf f2.type = 1
  c3 : P.cellsOf f3.type = 1
  u0 : P.underlying f0.type = some (.int .i64)
  u1 : P.underlying f1.type = some .string
  u2 : P.underlying f2.type = some (.int .i64)
  u3 : P.underlying f3.type = some (.int .u8)

theorem byte_of_wf {n : Int} (h : (Lit.int .u8 n).wf = true) : ∃ b : UInt8, n = (b.toNat : Int) := by
  simp [Lit.wf, IntKind.min, IntKind.max, IntKind.signed, IntKind.bits] at h
  refine ⟨n.toNat.toUInt8, ?_⟩
  rw [Lib.toUInt8_toNat (by omega)]
  omega

section
variable {H : Type} {enc : TypeId × Value → H} {P : Program} {w : World} {base : Nat} {sp : Nat → Bool} {held : Bool}
theorem open_call_cells {t : TypeId} {f0 f1 f2 f3 : Field} (V : IsCall P t f0 f1 f2 f3) {fuel : Nat} {cs : List Value} {x : DataW H × List MemPlace} (h : DataW.trod enc P w base sp held fuel t cs = some x) :
    ∃ c : Cl, cs = [.int .i64 c.kind, .string ⟨c.s.toArray⟩, .int .i64 c.n, .int .u8 (c.turn.toNat : Int)] ∧ c.Ok := by
  obtain ⟨xs, m, _, _, hlen, hl, hf⟩ := DataW.trod_struct V.ht h
  match xs, hl with
  | [y0, y1, y2, y3], _ =>
    have h0 : DataW.trod enc P w base sp held m f0.type ((cs.drop f0.offset).take (P.cellsOf f0.type)) = some y0 := by simpa using hf 0 f0 rfl
    have h1 : DataW.trod enc P w base sp held m f1.type ((cs.drop f1.offset).take (P.cellsOf f1.type)) = some y1 := by simpa using hf 1 f1 rfl
    have h2 : DataW.trod enc P w base sp held m f2.type ((cs.drop f2.offset).take (P.cellsOf f2.type)) = some y2 := by simpa using hf 2 f2 rfl
    have h3 : DataW.trod enc P w base sp held m f3.type ((cs.drop f3.offset).take (P.cellsOf f3.type)) = some y3 := by simpa using hf 3 f3 rfl
    rw [V.ce] at hlen
    match cs, hlen with
    | [c0, c1, c2, c3], _ =>
      rw [V.o0, V.c0] at h0
      rw [V.o1, V.c1] at h1
      rw [V.o2, V.c2] at h2
      rw [V.o3, V.c3] at h3
      obtain ⟨k, e0, _, w0⟩ := DataW.trod_int V.u0 h0
      obtain ⟨s, e1, _, w1⟩ := DataW.trod_string V.u1 h1
      obtain ⟨n, e2, _, w2⟩ := DataW.trod_int V.u2 h2
      obtain ⟨b, e3, _, w3⟩ := DataW.trod_int V.u3 h3
      simp at e0 e1 e2 e3
      subst e0 e1 e2 e3
      obtain ⟨l, rfl⟩ := str_list s
      obtain ⟨u, rfl⟩ := byte_of_wf w3
      exact ⟨⟨k, l, n, u⟩, rfl, i64_of_wf w0, by simpa [ByteArray.size] using w1, i64_of_wf w2⟩

theorem open_calls {t e : TypeId} {f0 f1 f2 f3 : Field} (V : IsCall P e f0 f1 f2 f3) {A : Option Addr} {n cap : Nat} {d : DataW H} {p : List MemPlace} (ht : P.underlying t = some (.slice e))
    (h : DataW.Trod enc P w 0 (fun _ => true) true t (.slice A n cap) d p) : ∃ cs, Clls w A n cs ∧ (∀ c ∈ cs, c.Ok) ∧ n ≤ maxLen := by
  obtain ⟨fuel, hf⟩ := h
  rcases Deep.open_slice ht hf with ⟨hcs, _⟩ | ⟨a, len, cap', m, k, D, Pl, hcs, _, hl, hm, hmm, _, hx⟩
  · simp [Value.cells] at hcs
    obtain ⟨rfl, rfl, rfl⟩ := hcs
    exact ⟨[], ⟨rfl, fun h => absurd h (by omega)⟩, by simp, by unfold maxLen; omega⟩
  · simp [Value.cells] at hcs
    obtain ⟨rfl, rfl, rfl⟩ := hcs
    simp at hmm
    subst hmm
    rw [V.ce] at hx
    have hv : ∀ i, i < n → ∃ c : Cl, (w.cell? (a.add (i * 4)) = some (.int .i64 c.kind) ∧ w.cell? (a.add (i * 4 + 1)) = some (.string ⟨c.s.toArray⟩) ∧ w.cell? (a.add (i * 4 + 2)) = some (.int .i64 c.n) ∧ w.cell? (a.add (i * 4 + 3)) = some (.int .u8 (c.turn.toNat : Int))) ∧ c.Ok := fun i hi => by
      obtain ⟨cs', h1, h2⟩ := hx i (by omega)
      obtain ⟨c, rfl, hok⟩ := open_call_cells V h2
      obtain ⟨_, _, hcell⟩ := World.cells?_some h1
      have q0 := hcell 0 (by omega)
      have q1 := hcell 1 (by omega)
      have q2 := hcell 2 (by omega)
      have q3 := hcell 3 (by omega)
      rw [Deep.add_add] at q0 q1 q2 q3
      exact ⟨c, ⟨by simpa using q0, by simpa using q1, by simpa using q2, by simpa using q3⟩, hok⟩
    obtain ⟨f, hf'⟩ := Deep.choose_lt hv
    obtain ⟨cs, hlen, hcs⟩ := list_of_fn n default f
    refine ⟨cs, ⟨hlen, fun hn => ?_⟩, fun x hx' => ?_, by omega⟩
    · obtain ⟨b, off, spot⟩ := a
      have hc := (hf' 0 hn).1.1
      have hspot : spot = none := by simpa [Addr.add] using World.cell?_spot hc
      subst hspot
      refine ⟨b, off, rfl, ?_, fun j hj => ?_⟩
      · have := World.block_lt_of_cell? w _ hc
        simpa [Addr.add] using this
      · obtain ⟨⟨a0, a1, a2, a3⟩, _⟩ := hf' j hj
        rw [hcs j hj]
        have e : ∀ i, (⟨b, off, none⟩ : Addr).add i = ⟨b, off + i, none⟩ := fun i => by unfold Addr.add; split <;> simp_all
        rw [e] at a0 a1 a2 a3
        exact ⟨a0, by rw [Nat.add_assoc]; exact a1, by rw [Nat.add_assoc]; exact a2, by rw [Nat.add_assoc]; exact a3⟩
    · obtain ⟨i, hi, rfl⟩ := List.getElem_of_mem hx'
      have h1 := hcs i (by omega)
      have h2 := (hf' i (by omega)).2
      have h3 : cs.getD i default = cs[i] := by simp [hi]
      rw [← h3, h1]
      exact h2
theorem Clls.below {w w' : World} {A : Option Addr} {n : Nat} {cs : List Cl} (h : Clls w A n cs) (hb : Below w.heap.size w w') : Clls w' A n cs :=
  ⟨h.1, fun hn => by
    obtain ⟨b, off, h1, h2, h3⟩ := h.2 hn
    refine ⟨b, off, h1, Nat.lt_of_lt_of_le h2 hb.size, fun j hj => ?_⟩
    obtain ⟨a0, a1, a2, a3⟩ := h3 j hj
    exact ⟨(hb.cell (p := ⟨b, off + j * 4, none⟩) h2).trans a0, (hb.cell (p := ⟨b, off + j * 4 + 1, none⟩) h2).trans a1, (hb.cell (p := ⟨b, off + j * 4 + 2, none⟩) h2).trans a2, (hb.cell (p := ⟨b, off + j * 4 + 3, none⟩) h2).trans a3⟩⟩
end
theorem isCall_ex : ∃ f0 f1 f2 f3, IsCall Try.prog 33 f0 f1 f2 f3 :=
  ⟨_, _, _, _, Try.underlying33, by kernel_rfl, rfl, rfl, rfl, rfl, by kernel_rfl, by kernel_rfl, by kernel_rfl, by kernel_rfl, Try.underlying3, Try.underlying9, Try.underlying3, Try.underlying5⟩
end Go.Proofs.Ytmdoicemkddpgaa
