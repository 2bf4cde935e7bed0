/- Arguments opened: grants, rows of grants, the capacity of a schema's grants. -/
import Derived.Test.YteehccklnidofaaQGrB
import Derived.Test.YteehccklnidofaaQOpen
namespace Go.Proofs.Yteehccklnidofaa
open Go.ChangeShapes Go.WideShapes Go.ChangeAt Go.RowKit
section
variable {H : Type} {enc : TypeId × Value → H} {P : Program} {w : World}
theorem cap_t {t e : TypeId} (ht : P.underlying t = some (.slice e)) {fuel : Nat} {A : Option Addr} {n cap : Nat} {x : DataW H × List MemPlace} (h : DataW.trod enc P w 0 (fun _ => true) true fuel t [.slice A n cap] = some x) : n ≤ cap := by
  rcases Deep.open_slice ht h with ⟨hcs, _⟩ | ⟨a, len, cap', m, k, D, Pl, hcs, _, hl, hm, hmm, _, hx⟩
  · simp at hcs
    omega
  · simp at hcs
    omega
theorem open_grant {t : TypeId} {f0 f1 f2 : Field} (E : IsGr P t f0 f1 f2) {r : Reach} {b0 : Nat} {v : Value} {d : DataW H} {ps : List MemPlace} (hval : Value.okWide P w r b0 t v) (h : DataW.Trod enc P w 0 (fun _ => true) true t v d ps) : ∃ c : Gr, v = c.val ∧ c.Ok := by
  obtain ⟨cs, rfl, hsz⟩ := okWide_struct E.ht hval
  obtain ⟨fuel, hf⟩ := h
  obtain ⟨e, h1, h2, h3⟩ := open_gr E fuel hf
  refine ⟨e, ?_, h2⟩
  obtain ⟨l⟩ := cs
  simp [Value.cells] at h1
  rw [h1]; rfl
theorem open_grants {t te : TypeId} {f0 f1 f2 : Field} (E : IsGr P te f0 f1 f2) (ht : P.underlying t = some (.slice te)) {A : Option Addr} {n cap : Nat} {d : DataW H} {p : List MemPlace} (h : DataW.Trod enc P w 0 (fun _ => true) true t (.slice A n cap) d p) :
    ∃ gs : List Gr, RowG w A n gs ∧ n ≤ maxLen ∧ n ≤ cap := by
  obtain ⟨fuel, hf⟩ := h
  have hcs : (Value.cells (.slice A n cap)).toList = [.slice A n cap] := by simp [Value.cells]
  rw [hcs] at hf
  obtain ⟨A', n', cap', f', q3, hmax', hsum', hok', hrow'⟩ := open_row 3 Gr.cs Gr.Ok wtG ht E.ce fuel (fun _ => rfl) (by omega) (fun q _ _ _ hh => open_gr E q hh) hf
  simp only [List.cons.injEq, and_true, Value.slice.injEq] at q3
  obtain ⟨rfl, rfl, rfl⟩ := q3
  obtain ⟨ls, s1, s2, s3⟩ := list_fn n f' hok'
  refine ⟨ls, ⟨s1, s2, fun hn => ?_⟩, hmax', cap_t ht hf⟩
  obtain ⟨b, off, e1, e2, e3⟩ := hrow' hn
  exact ⟨b, off, e1, e2, fun j hj => by
    rw [show (ls.getD j default) = f' j from s3 j hj]
    exact ⟨e3 j hj 0 _ rfl, e3 j hj 1 _ rfl, e3 j hj 2 _ rfl⟩⟩
theorem sc_cap {t tt tg : TypeId} {f0 f1 f2 : Field} (S : IsSc P t tt tg f0 f1 f2) {c : Sc} {d : DataW H} {ps : List MemPlace} (h : DataW.Trod enc P w 0 (fun _ => true) true t c.val d ps) : c.gn ≤ c.gcap := by
  obtain ⟨fuel, hf⟩ := h
  have hcs : (Value.cells c.val).toList = [.int .i64 c.ver, .slice c.tA c.tn c.tcap, .slice c.gA c.gn c.gcap] := by simp [Value.cells, Sc.val]
  rw [hcs] at hf
  obtain ⟨xs, m, hm, hx, hlen, hl, hf⟩ := DataW.trod_struct S.ht hf
  match xs, hl with
  | [y0, y1, y2], _ =>
    have h2 := hf 2 f2 rfl
    rw [S.o2, S.c2] at h2
    simp only [List.drop_zero, List.drop_succ_cons, List.take_succ_cons, List.take_zero] at h2
    exact cap_t S.u2 h2
end
end Go.Proofs.Yteehccklnidofaa
