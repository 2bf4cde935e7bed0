/- Schemas in memory: columns, grants, tables; arguments that are one opened, and how much they hold. -/
import Derived.Test.YtnhalfdddcjicaaGreatQJae
namespace Go.Proofs.YtnhalfdddcjicaaGreat
open Go.ChangeShapes Go.WideShapes Go.ChangeAt Go.RowKit

/-- A column. -/
structure Co where
  name : List UInt8
  kind : Int
  nn : Bool
  un : Bool
  ref : List UInt8
  del : Int
deriving DecidableEq
instance : Inhabited Co := ⟨⟨[], 0, false, false, [], 0⟩⟩
def Co.cs (c : Co) : List Value := [.string ⟨c.name.toArray⟩, .int .i64 c.kind, .bool c.nn, .bool c.un, .string ⟨c.ref.toArray⟩, .int .i64 c.del]
def Co.val (c : Co) : Value := .agg #[.string ⟨c.name.toArray⟩, .int .i64 c.kind, .bool c.nn, .bool c.un, .string ⟨c.ref.toArray⟩, .int .i64 c.del]
structure Co.Ok (c : Co) : Prop where
  kind : I64 c.kind
  del : I64 c.del
  name : c.name.length ≤ maxLen
  ref : c.ref.length ≤ maxLen
/-- A grant. -/
structure Gr where
  role : Int
  table : List UInt8
  bits : Int
deriving DecidableEq
instance : Inhabited Gr := ⟨⟨0, [], 0⟩⟩
def Gr.cs (g : Gr) : List Value := [.int .i64 g.role, .string ⟨g.table.toArray⟩, .int .i64 g.bits]
def Gr.val (g : Gr) : Value := .agg #[.int .i64 g.role, .string ⟨g.table.toArray⟩, .int .i64 g.bits]
structure Gr.Ok (g : Gr) : Prop where
  role : I64 g.role
  bits : I64 g.bits
  table : g.table.length ≤ maxLen
def Ex.cs (e : Ex) : List Value := [.int .i64 e.op, .int .i64 e.col, .int .i64 e.v.kind, .int .i64 e.v.num, .string ⟨e.v.text.toArray⟩, .slice e.A e.n e.cap]
/-- A table as it lies in memory. -/
structure Tb where
  name : List UInt8
  owner : Int
  cA : Option Addr
  cn : Nat
  ccap : Nat
  cols : List Co
  eA : Option Addr
  en : Nat
  ecap : Nat
  chk : Nat → Ex
instance : Inhabited Tb := ⟨⟨[], 0, none, 0, 0, [], none, 0, 0, fun _ => .nil⟩⟩
def Tb.cs (t : Tb) : List Value := [.string ⟨t.name.toArray⟩, .int .i64 t.owner, .slice t.cA t.cn t.ccap, .slice t.eA t.en t.ecap]
def Tb.val (t : Tb) : Value := .agg #[.string ⟨t.name.toArray⟩, .int .i64 t.owner, .slice t.cA t.cn t.ccap, .slice t.eA t.en t.ecap]
/-- A schema as it lies in memory. -/
structure Sc where
  ver : Int
  tA : Option Addr
  tn : Nat
  tcap : Nat
  tab : Nat → Tb
  gA : Option Addr
  gn : Nat
  gcap : Nat
  grants : List Gr
instance : Inhabited Sc := ⟨⟨0, none, 0, 0, fun _ => default, none, 0, 0, []⟩⟩
def Sc.val (s : Sc) : Value := .agg #[.int .i64 s.ver, .slice s.tA s.tn s.tcap, .slice s.gA s.gn s.gcap]

def CellsC (w : World) (b o : Nat) (c : Co) : Prop :=
  w.cell? ⟨b, o, none⟩ = some (.string ⟨c.name.toArray⟩) ∧ w.cell? ⟨b, o + 1, none⟩ = some (.int .i64 c.kind) ∧ w.cell? ⟨b, o + 2, none⟩ = some (.bool c.nn) ∧
  w.cell? ⟨b, o + 3, none⟩ = some (.bool c.un) ∧ w.cell? ⟨b, o + 4, none⟩ = some (.string ⟨c.ref.toArray⟩) ∧ w.cell? ⟨b, o + 5, none⟩ = some (.int .i64 c.del)
def CellsG (w : World) (b o : Nat) (g : Gr) : Prop :=
  w.cell? ⟨b, o, none⟩ = some (.int .i64 g.role) ∧ w.cell? ⟨b, o + 1, none⟩ = some (.string ⟨g.table.toArray⟩) ∧ w.cell? ⟨b, o + 2, none⟩ = some (.int .i64 g.bits)
def CellsT (w : World) (b o : Nat) (t : Tb) : Prop :=
  w.cell? ⟨b, o, none⟩ = some (.string ⟨t.name.toArray⟩) ∧ w.cell? ⟨b, o + 1, none⟩ = some (.int .i64 t.owner) ∧ w.cell? ⟨b, o + 2, none⟩ = some (.slice t.cA t.cn t.ccap) ∧ w.cell? ⟨b, o + 3, none⟩ = some (.slice t.eA t.en t.ecap)
theorem CellsC.keep {w w' : World} {b o : Nat} {c : Co} (h : CellsC w b o c) (k : ∀ i, w'.cell? ⟨b, i, none⟩ = w.cell? ⟨b, i, none⟩) : CellsC w' b o c := by
  obtain ⟨h0, h1, h2, h3, h4, h5⟩ := h
  exact ⟨(k _).trans h0, (k _).trans h1, (k _).trans h2, (k _).trans h3, (k _).trans h4, (k _).trans h5⟩
theorem CellsG.keep {w w' : World} {b o : Nat} {c : Gr} (h : CellsG w b o c) (k : ∀ i, w'.cell? ⟨b, i, none⟩ = w.cell? ⟨b, i, none⟩) : CellsG w' b o c := by
  obtain ⟨h0, h1, h2⟩ := h
  exact ⟨(k _).trans h0, (k _).trans h1, (k _).trans h2⟩
theorem CellsT.keep {w w' : World} {b o : Nat} {c : Tb} (h : CellsT w b o c) (k : ∀ i, w'.cell? ⟨b, i, none⟩ = w.cell? ⟨b, i, none⟩) : CellsT w' b o c := by
  obtain ⟨h0, h1, h2, h3⟩ := h
  exact ⟨(k _).trans h0, (k _).trans h1, (k _).trans h2, (k _).trans h3⟩
/-- Columns in a row. -/
def RowC (w : World) (A : Option Addr) (n : Nat) (cs : List Co) : Prop :=
  cs.length = n ∧ (∀ c ∈ cs, c.Ok) ∧ (0 < n → ∃ b off, A = some ⟨b, off, none⟩ ∧ b < w.heap.size ∧ ∀ j, j < n → CellsC w b (off + j * 6) (cs.getD j default))
def RowG (w : World) (A : Option Addr) (n : Nat) (cs : List Gr) : Prop :=
  cs.length = n ∧ (∀ c ∈ cs, c.Ok) ∧ (0 < n → ∃ b off, A = some ⟨b, off, none⟩ ∧ b < w.heap.size ∧ ∀ j, j < n → CellsG w b (off + j * 3) (cs.getD j default))
/-- Expressions in a row, and what they lead to. -/
def RowE (w : World) (A : Option Addr) (n : Nat) (arg : Nat → Ex) : Prop :=
  0 < n → ∃ b off, A = some ⟨b, off, none⟩ ∧ b < w.heap.size ∧ ∀ j, j < n → CellsE w b (off + j * 6) (arg j) ∧ InE w (arg j)
structure InT (w : World) (t : Tb) : Prop where
  owner : I64 t.owner
  name : t.name.length ≤ maxLen
  cmax : t.cn ≤ maxLen
  emax : t.en ≤ maxLen
  cols : RowC w t.cA t.cn t.cols
  chk : RowE w t.eA t.en t.chk
def RowT (w : World) (A : Option Addr) (n : Nat) (tab : Nat → Tb) : Prop :=
  0 < n → ∃ b off, A = some ⟨b, off, none⟩ ∧ b < w.heap.size ∧ ∀ j, j < n → CellsT w b (off + j * 4) (tab j) ∧ InT w (tab j)
structure InS (w : World) (s : Sc) : Prop where
  ver : I64 s.ver
  tmax : s.tn ≤ maxLen
  gmax : s.gn ≤ maxLen
  tabs : RowT w s.tA s.tn s.tab
  grants : RowG w s.gA s.gn s.grants

section
variable {w w' : World} (hb : Below w.heap.size w w')
include hb
theorem RowC.below {A : Option Addr} {n : Nat} {cs : List Co} (h : RowC w A n cs) : RowC w' A n cs :=
  ⟨h.1, h.2.1, fun hn => by
    obtain ⟨b, off, e1, e2, e3⟩ := h.2.2 hn
    exact ⟨b, off, e1, Nat.lt_of_lt_of_le e2 hb.size, fun j hj => (e3 j hj).keep fun i => hb.cell (p := ⟨b, i, none⟩) e2⟩⟩
theorem RowG.below {A : Option Addr} {n : Nat} {cs : List Gr} (h : RowG w A n cs) : RowG w' A n cs :=
  ⟨h.1, h.2.1, fun hn => by
    obtain ⟨b, off, e1, e2, e3⟩ := h.2.2 hn
    exact ⟨b, off, e1, Nat.lt_of_lt_of_le e2 hb.size, fun j hj => (e3 j hj).keep fun i => hb.cell (p := ⟨b, i, none⟩) e2⟩⟩
theorem RowE.below {A : Option Addr} {n : Nat} {arg : Nat → Ex} (h : RowE w A n arg) : RowE w' A n arg := fun hn => by
  obtain ⟨b, off, e1, e2, e3⟩ := h hn
  exact ⟨b, off, e1, Nat.lt_of_lt_of_le e2 hb.size, fun j hj => ⟨(e3 j hj).1.keep fun i => hb.cell (p := ⟨b, i, none⟩) e2, (e3 j hj).2.below hb⟩⟩
theorem InT.below {t : Tb} (h : InT w t) : InT w' t := ⟨h.owner, h.name, h.cmax, h.emax, h.cols.below hb, h.chk.below hb⟩
theorem RowT.below {A : Option Addr} {n : Nat} {tab : Nat → Tb} (h : RowT w A n tab) : RowT w' A n tab := fun hn => by
  obtain ⟨b, off, e1, e2, e3⟩ := h hn
  exact ⟨b, off, e1, Nat.lt_of_lt_of_le e2 hb.size, fun j hj => ⟨(e3 j hj).1.keep fun i => hb.cell (p := ⟨b, i, none⟩) e2, (e3 j hj).2.below hb⟩⟩
theorem InS.below {s : Sc} (h : InS w s) : InS w' s := ⟨h.ver, h.tmax, h.gmax, h.tabs.below hb, h.grants.below hb⟩
end

/-- A sum over places. -/
def sumN (n : Nat) (f : Nat → Nat) : Nat := ((List.range n).map f).sum
theorem sumN_succ (n : Nat) (f : Nat → Nat) : sumN (n + 1) f = sumN n f + f n := by simp [sumN, List.range_succ]
theorem sumN_mono {n : Nat} {f g : Nat → Nat} (h : ∀ i, i < n → f i ≤ g i) : sumN n f ≤ sumN n g := by
  induction n with
  | zero => simp [sumN]
  | succ n ih => rw [sumN_succ, sumN_succ]; have := ih fun i hi => h i (by omega); have := h n (by omega); omega
theorem sumN_le {n k : Nat} (f : Nat → Nat) (h : k ≤ n) : sumN k f ≤ sumN n f := by
  induction n with
  | zero => obtain rfl : k = 0 := by omega
            exact Nat.le_refl _
  | succ n ih =>
    by_cases hk : k = n + 1
    · rw [hk]; exact Nat.le_refl _
    · rw [sumN_succ]; have := ih (by omega); omega
theorem sumN_at {n k : Nat} (f : Nat → Nat) (h : k < n) : f k ≤ sumN n f := by
  have h1 : sumN (k + 1) f ≤ sumN n f := sumN_le f h
  have h2 := sumN_succ k f
  omega
/-- How much an expression holds. -/
def wtE : Ex → Nat
  | .nil => 0
  | .mk _ _ v _ n _ arg => 8 + v.text.length + sumN n fun j => wtE (arg j)
def wtC (c : Co) : Nat := 6 + c.name.length + c.ref.length
def wtG (g : Gr) : Nat := 3 + g.table.length
def wtT (t : Tb) : Nat := 4 + t.name.length + sumN t.cn (fun j => wtC (t.cols.getD j default)) + sumN t.en fun j => wtE (t.chk j)
def wtS (s : Sc) : Nat := 3 + sumN s.tn (fun j => wtT (s.tab j)) + sumN s.gn fun j => wtG (s.grants.getD j default)

theorem bulk_pos {H : Type} (d : DataW H) : 1 ≤ Rows.uptoBulk d := by
  cases d with
  | lit l => cases l <;> simp [Rows.uptoBulk]
  | _ => simp [Rows.uptoBulk]
theorem bulk_sum {H : Type} : ∀ (n : Nat) (elems : List (DataW H × List MemPlace)) (f : Nat → Nat), elems.length = n → (∀ i, i < n → ∃ y, elems[i]? = some y ∧ f i ≤ Rows.uptoBulk y.1) →
    sumN n f ≤ Rows.uptoBulkAll (elems.map (·.1))
  | 0, _, _, _, _ => by simp [sumN]
  | n + 1, elems, f, hl, h => by
    obtain ⟨front, y, rfl⟩ : ∃ front y, elems = front ++ [y] := by
      have hne : elems ≠ [] := by intro e; rw [e] at hl; simp at hl
      exact ⟨elems.dropLast, elems.getLast hne, (List.dropLast_concat_getLast hne).symm⟩
    have hf : front.length = n := by simpa using hl
    have hsplit : ∀ (l : List (DataW H)) (z : DataW H), Rows.uptoBulkAll (l ++ [z]) = Rows.uptoBulkAll l + Rows.uptoBulk z := fun l z => by
      induction l with
      | nil => simp [Rows.uptoBulkAll]
      | cons a r ih => simp only [List.cons_append, Rows.uptoBulkAll, ih]; omega
    rw [List.map_append, List.map_cons, List.map_nil, hsplit, sumN_succ]
    have h1 := bulk_sum n front f hf fun i hi => by
      obtain ⟨y', e, hy⟩ := h i (by omega)
      rw [List.getElem?_append_left (by omega)] at e
      exact ⟨y', e, hy⟩
    obtain ⟨y', e, hy⟩ := h n (by omega)
    rw [List.getElem?_append_right (by omega)] at e
    simp [hf] at e
    subst e
    omega

section
variable {H : Type} {enc : TypeId × Value → H} {P : Program} {w : World}
/-- A slice opened, its elements of k cells opened by a law at hand for less fuel. -/
theorem open_row {α : Type} [Inhabited α] (k : Nat) (cellsOf : α → List Value) (ok : α → Prop) (wt : α → Nat) {t e : TypeId} (ht : P.underlying t = some (.slice e)) (hk : P.cellsOf e = k) (fuel : Nat)
    (hlen : ∀ a, (cellsOf a).length = k) (hk0 : 0 < k)
    (op : ∀ q, q < fuel → ∀ {cs : List Value} {x : DataW H × List MemPlace}, DataW.trod enc P w 0 (fun _ => true) true q e cs = some x → ∃ a, cs = cellsOf a ∧ ok a ∧ wt a ≤ Rows.uptoBulk x.1)
    {cs : List Value} {x : DataW H × List MemPlace} (h : DataW.trod enc P w 0 (fun _ => true) true fuel t cs = some x) :
    ∃ (A : Option Addr) (n cap : Nat) (f : Nat → α), cs = [.slice A n cap] ∧ n ≤ maxLen ∧ sumN n (fun j => wt (f j)) + 1 ≤ Rows.uptoBulk x.1 ∧ (∀ j, j < n → ok (f j)) ∧
      (0 < n → ∃ b off, A = some ⟨b, off, none⟩ ∧ b < w.heap.size ∧ ∀ j, j < n → ∀ i v, (cellsOf (f j))[i]? = some v → w.cell? ⟨b, off + j * k + i, none⟩ = some v) := by
  rcases DataW.trod_slice ht h with ⟨rfl, rfl⟩ | ⟨a, len, cap, elems, rest, q, rfl, rfl, rfl, _, hl, hmx, hle, hel, _, _⟩
  · exact ⟨none, 0, 0, fun _ => default, rfl, by unfold maxLen; omega, by simp [sumN, Rows.uptoBulk], fun j hj => absurd hj (by omega), fun hh => absurd hh (by omega)⟩
  · rw [hk] at hel
    have hv : ∀ i, i < len → ∃ a' : α, (∀ j v, (cellsOf a')[j]? = some v → w.cell? (a.add (i * k + j)) = some v) ∧ ok a' ∧ ∃ y, elems[i]? = some y ∧ wt a' ≤ Rows.uptoBulk y.1 := fun i hi => by
      have key := hel i hi
      rw [List.getElem?_eq_getElem (by omega)] at key
      obtain ⟨cs', h1, h2⟩ := Option.bind_eq_some_iff.1 key
      obtain ⟨a', rfl, hok, hw⟩ := op q (by omega) h2
      obtain ⟨_, _, hcell⟩ := World.cells?_some h1
      refine ⟨a', fun j v hj => ?_, hok, _, List.getElem?_eq_getElem (by omega), hw⟩
      have hjl : j < k := by
        have := (List.getElem?_eq_some_iff.1 hj).1
        rw [hlen] at this
        exact this
      have q0 := hcell j hjl
      rw [Deep.add_add] at q0
      rw [q0]
      simpa using hj
    obtain ⟨f, hf⟩ := Deep.choose_lt hv
    refine ⟨some a, len, cap, f, rfl, by omega, ?_, fun j hj => (hf j hj).2.1, fun hn => ?_⟩
    · have := bulk_sum len elems (fun j => wt (f j)) hle fun i hi => (hf i hi).2.2
      show _ + 1 ≤ Rows.uptoBulk (.slice (elems.map (·.1)) (rest.map (·.1)))
      rw [Rows.uptoBulk]
      omega
    · obtain ⟨b, off, spot⟩ := a
      obtain ⟨v0, hv0⟩ : ∃ v0, (cellsOf (f 0))[0]? = some v0 := ⟨_, List.getElem?_eq_getElem (by rw [hlen]; exact hk0)⟩
      have hc := (hf 0 hn).1 0 v0 hv0
      have hspot : spot = none := by simpa [Addr.add] using World.cell?_spot hc
      subst hspot
      refine ⟨b, off, rfl, ?_, fun j hj i v hi => ?_⟩
      · have := World.block_lt_of_cell? w _ hc
        simpa [Addr.add] using this
      · have h1 := (hf j hj).1 i v hi
        have e : ∀ i, (⟨b, off, none⟩ : Addr).add i = ⟨b, off + i, none⟩ := fun i => by unfold Addr.add; split <;> simp_all
        rw [e] at h1
        rw [Nat.add_assoc]
        exact h1

theorem open_exw {t ts tv : TypeId} {f0 f1 f2 f3 g0 g1 g2 : Field} (E : IsEx P t ts tv f0 f1 f2 f3) (V : IsVal P tv g0 g1 g2) : ∀ (fuel : Nat) {cs : List Value} {x : DataW H × List MemPlace},
    DataW.trod enc P w 0 (fun _ => true) true fuel t cs = some x → ∃ e : Ex, cs = e.cs ∧ InE w e ∧ wtE e ≤ Rows.uptoBulk x.1 := by
  intro fuel
  induction fuel using Nat.strongRecOn with
  | _ fuel ih =>
    intro cs x h
    obtain ⟨xs, m, hm, hx, hlen, hl, hf⟩ := DataW.trod_struct E.ht h
    rw [E.ce] at hlen
    match xs, hl with
    | [y0, y1, y2, y3], _ =>
      match cs, hlen with
      | [c0, c1, c2, c3, c4, c5], _ =>
        have h0 := hf 0 f0 rfl
        have h1 := hf 1 f1 rfl
        have h2 := hf 2 f2 rfl
        have h3 := hf 3 f3 rfl
        rw [E.o0, E.c0] at h0
        rw [E.o1, E.c1] at h1
        rw [E.o2, E.c2, E.t2] at h2
        rw [E.o3, E.c3] at h3
        simp only [List.drop_zero, List.drop_succ_cons, List.take_succ_cons, List.take_zero] at h0 h1 h2 h3
        obtain ⟨a0, e0, x0, w0⟩ := DataW.trod_int E.u0 h0
        obtain ⟨a1, e1, x1, w1⟩ := DataW.trod_int E.u1 h1
        obtain ⟨v, e2, hv, hw2⟩ : ∃ v : Vl, [c2, c3, c4] = [.int .i64 v.kind, .int .i64 v.num, .string ⟨v.text.toArray⟩] ∧ v.Ok ∧ v.text.length + 4 ≤ Rows.uptoBulk y2.1 := by
          obtain ⟨v, e2, hv⟩ := open_cells V h2
          refine ⟨v, e2, hv, ?_⟩
          obtain ⟨z0, z1, z2, m', hz, hlen', k0, k1, k2⟩ := Deep.trod_struct3 V.ht h2
          rw [V.o2, V.c2, e2] at k2
          simp only [List.drop_succ_cons, List.drop_zero, List.take_succ_cons, List.take_zero] at k2
          obtain ⟨s, e3, ez, _⟩ := DataW.trod_string V.u2 k2
          simp only [List.cons.injEq, and_true] at e3
          injection e3 with e3
          subst e3
          rw [hz]
          subst ez
          have p0 := bulk_pos z0.1
          have p1 := bulk_pos z1.1
          simp only [Rows.uptoBulk, Rows.uptoBulkAll]
          simp
          omega
        simp only [List.cons.injEq, and_true] at e0 e1 e2
        subst e0 e1
        obtain ⟨rfl, rfl, rfl⟩ := e2
        obtain ⟨A, n, cap, f, e3, hmax, hsum, hok, hrow⟩ := open_row 6 Ex.cs (InE w) wtE E.u3 E.ce m (fun _ => rfl) (by omega) (fun q hq _ _ hh => ih q (by omega) hh) h3
        simp only [List.cons.injEq, and_true] at e3
        subst e3
        refine ⟨.mk a0 a1 v A n cap f, rfl, ?_, ?_⟩
        · rw [InE]
          refine ⟨i64_of_wf w0, i64_of_wf w1, hv, hmax, fun hn => ?_⟩
          obtain ⟨b, off, e1, e2, e3⟩ := hrow hn
          exact ⟨b, off, e1, e2, fun j hj => ⟨⟨e3 j hj 0 _ rfl, e3 j hj 1 _ rfl, e3 j hj 2 _ rfl, e3 j hj 3 _ rfl, e3 j hj 4 _ rfl, e3 j hj 5 _ rfl⟩, hok j hj⟩⟩
        · rw [hx, wtE]
          simp only [List.map_cons, List.map_nil, Rows.uptoBulk, Rows.uptoBulkAll]
          rw [Prod.ext_iff] at x0 x1
          have p0 : Rows.uptoBulk y0.1 = 1 := by rw [x0.1]; simp [Rows.uptoBulk]
          have p1 : Rows.uptoBulk y1.1 = 1 := by rw [x1.1]; simp [Rows.uptoBulk]
          omega

/-- The type t is the struct of columns. -/
structure IsCo (P : Program) (t : TypeId) (f0 f1 f2 f3 f4 f5 : Field) : Prop where
  ht : P.underlying t = some (.struct #[f0, f1, f2, f3, f4, f5])
  ce : P.cellsOf t = 6
  o0 : f0.offset = 0
  o1 : f1.offset = 1
  o2 : f2.offset = 2
  o3 : f3.offset = 3
  o4 : f4.offset = 4
  o5 : f5.offset = 5
  c0 : P.cellsOf f0.type = 1
  c1 : P.cellsOf f1.type = 1
  c2 : P.cellsOf f2.type = 1
  c3 : P.cellsOf f3.type = 1
  c4 : P.cellsOf f4.type = 1
  c5 : P.cellsOf f5.type = 1
  u0 : P.underlying f0.type = some .string
  u1 : P.underlying f1.type = some (.int .i64)
  u2 : P.underlying f2.type = some .bool
  u3 : P.underlying f3.type = some .bool
  u4 : P.underlying f4.type = some .string
  u5 : P.underlying f5.type = some (.int .i64)
structure IsGr (P : Program) (t : TypeId) (f0 f1 f2 : Field) : Prop where
  ht : P.underlying t = some (.struct #[f0, f1, f2])
  ce : P.cellsOf t = 3
  o0 : f0.offset = 0
  o1 : f1.offset = 1
  o2 : f2.offset = 2
  c0 : P.cellsOf f0.type = 1
  c1 : P.cellsOf f1.type = 1
  c2 : P.cellsOf f2.type = 1
  u0 : P.underlying f0.type = some (.int .i64)
  u1 : P.underlying f1.type = some .string
  u2 : P.underlying f2.type = some (.int .i64)
structure IsTb (P : Program) (t tc te : TypeId) (f0 f1 f2 f3 : Field) : Prop where
  ht : P.underlying t = some (.struct #[f0, f1, f2, f3])
  ce : P.cellsOf t = 4
  o0 : f0.offset = 0
  o1 : f1.offset = 1
  o2 : f2.offset = 2
  o3 : f3.offset = 3
  c0 : P.cellsOf f0.type = 1
  c1 : P.cellsOf f1.type = 1
  c2 : P.cellsOf f2.type = 1
  c3 : P.cellsOf f3.type = 1
  u0 : P.underlying f0.type = some .string
  u1 : P.underlying f1.type = some (.int .i64)
  u2 : P.underlying f2.type = some (.slice tc)
  u3 : P.underlying f3.type = some (.slice te)
structure IsSc (P : Program) (t tt tg : TypeId) (f0 f1 f2 : Field) : Prop where
  ht : P.underlying t = some (.struct #[f0, f1, f2])
  ce : P.cellsOf t = 3
  o0 : f0.offset = 0
  o1 : f1.offset = 1
  o2 : f2.offset = 2
  c0 : P.cellsOf f0.type = 1
  c1 : P.cellsOf f1.type = 1
  c2 : P.cellsOf f2.type = 1
  u0 : P.underlying f0.type = some (.int .i64)
  u1 : P.underlying f1.type = some (.slice tt)
  u2 : P.underlying f2.type = some (.slice tg)

theorem open_str1 {t : TypeId} (ht : P.underlying t = some .string) {fuel : Nat} {c : Value} {x : DataW H × List MemPlace} (h : DataW.trod enc P w 0 (fun _ => true) true fuel t [c] = some x) :
    ∃ l : List UInt8, c = .string ⟨l.toArray⟩ ∧ l.length ≤ maxLen ∧ l.length + 1 ≤ Rows.uptoBulk x.1 := by
  obtain ⟨s, e, hx, hw⟩ := DataW.trod_string ht h
  simp only [List.cons.injEq, and_true] at e
  obtain ⟨l, rfl⟩ := str_list s
  refine ⟨l, e, by simpa [ByteArray.size] using hw, ?_⟩
  subst hx
  simp [Rows.uptoBulk]
theorem open_int1 {t : TypeId} (ht : P.underlying t = some (.int .i64)) {fuel : Nat} {c : Value} {x : DataW H × List MemPlace} (h : DataW.trod enc P w 0 (fun _ => true) true fuel t [c] = some x) :
    ∃ z : Int, c = .int .i64 z ∧ I64 z := by
  obtain ⟨a, e, _, hw⟩ := DataW.trod_int ht h
  simp only [List.cons.injEq, and_true] at e
  exact ⟨a, e, i64_of_wf hw⟩
theorem open_bool1 {t : TypeId} (ht : P.underlying t = some .bool) {fuel : Nat} {c : Value} {x : DataW H × List MemPlace} (h : DataW.trod enc P w 0 (fun _ => true) true fuel t [c] = some x) :
    ∃ z : Bool, c = .bool z := by
  obtain ⟨a, e, _⟩ := DataW.trod_bool ht h
  simp only [List.cons.injEq, and_true] at e
  exact ⟨a, e⟩

theorem open_co {t : TypeId} {f0 f1 f2 f3 f4 f5 : Field} (E : IsCo P t f0 f1 f2 f3 f4 f5) (fuel : Nat) {cs : List Value} {x : DataW H × List MemPlace}
    (h : DataW.trod enc P w 0 (fun _ => true) true fuel t cs = some x) : ∃ c : Co, cs = c.cs ∧ c.Ok ∧ wtC c ≤ Rows.uptoBulk x.1 := by
  obtain ⟨xs, m, hm, hx, hlen, hl, hf⟩ := DataW.trod_struct E.ht h
  rw [E.ce] at hlen
  match xs, hl with
  | [y0, y1, y2, y3, y4, y5], _ =>
    match cs, hlen with
    | [d0, d1, d2, d3, d4, d5], _ =>
      have h0 := hf 0 f0 rfl
      have h1 := hf 1 f1 rfl
      have h2 := hf 2 f2 rfl
      have h3 := hf 3 f3 rfl
      have h4 := hf 4 f4 rfl
      have h5 := hf 5 f5 rfl
      rw [E.o0, E.c0] at h0
      rw [E.o1, E.c1] at h1
      rw [E.o2, E.c2] at h2
      rw [E.o3, E.c3] at h3
      rw [E.o4, E.c4] at h4
      rw [E.o5, E.c5] at h5
      simp only [List.drop_zero, List.drop_succ_cons, List.take_succ_cons, List.take_zero] at h0 h1 h2 h3 h4 h5
      obtain ⟨l0, rfl, m0, b0⟩ := open_str1 E.u0 h0
      obtain ⟨z1, rfl, i1⟩ := open_int1 E.u1 h1
      obtain ⟨z2, rfl⟩ := open_bool1 E.u2 h2
      obtain ⟨z3, rfl⟩ := open_bool1 E.u3 h3
      obtain ⟨l4, rfl, m4, b4⟩ := open_str1 E.u4 h4
      obtain ⟨z5, rfl, i5⟩ := open_int1 E.u5 h5
      refine ⟨⟨l0, z1, z2, z3, l4, z5⟩, rfl, ⟨i1, i5, m0, m4⟩, ?_⟩
      have p1 := bulk_pos y1.1
      have p2 := bulk_pos y2.1
      have p3 := bulk_pos y3.1
      have p5 := bulk_pos y5.1
      rw [hx]
      simp only [List.map_cons, List.map_nil, Rows.uptoBulk, Rows.uptoBulkAll, wtC]
      omega
theorem open_gr {t : TypeId} {f0 f1 f2 : Field} (E : IsGr P t f0 f1 f2) (fuel : Nat) {cs : List Value} {x : DataW H × List MemPlace}
    (h : DataW.trod enc P w 0 (fun _ => true) true fuel t cs = some x) : ∃ c : Gr, cs = c.cs ∧ c.Ok ∧ wtG c ≤ Rows.uptoBulk x.1 := by
  obtain ⟨xs, m, hm, hx, hlen, hl, hf⟩ := DataW.trod_struct E.ht h
  rw [E.ce] at hlen
  match xs, hl with
  | [y0, y1, y2], _ =>
    match cs, hlen with
    | [d0, d1, d2], _ =>
      have h0 := hf 0 f0 rfl
      have h1 := hf 1 f1 rfl
      have h2 := hf 2 f2 rfl
      rw [E.o0, E.c0] at h0
      rw [E.o1, E.c1] at h1
      rw [E.o2, E.c2] at h2
      simp only [List.drop_zero, List.drop_succ_cons, List.take_succ_cons, List.take_zero] at h0 h1 h2
      obtain ⟨z0, rfl, i0⟩ := open_int1 E.u0 h0
      obtain ⟨l1, rfl, m1, b1⟩ := open_str1 E.u1 h1
      obtain ⟨z2, rfl, i2⟩ := open_int1 E.u2 h2
      refine ⟨⟨z0, l1, z2⟩, rfl, ⟨i0, i2, m1⟩, ?_⟩
      have p0 := bulk_pos y0.1
      have p2 := bulk_pos y2.1
      rw [hx]
      simp only [List.map_cons, List.map_nil, Rows.uptoBulk, Rows.uptoBulkAll, wtG]
      omega
theorem list_fn {α : Type} [Inhabited α] {ok : α → Prop} (n : Nat) (f : Nat → α) (h : ∀ j, j < n → ok (f j)) : ∃ l : List α, l.length = n ∧ (∀ c ∈ l, ok c) ∧ ∀ j, j < n → l.getD j default = f j := by
  refine ⟨(List.range n).map f, by simp, fun c hc => ?_, fun j hj => by simp [hj]⟩
  simp only [List.mem_map, List.mem_range] at hc
  obtain ⟨j, hj, rfl⟩ := hc
  exact h j hj
theorem sumN_congr {n : Nat} {f g : Nat → Nat} (h : ∀ i, i < n → f i = g i) : sumN n f = sumN n g :=
  Nat.le_antisymm (sumN_mono fun i hi => Nat.le_of_eq (h i hi)) (sumN_mono fun i hi => Nat.le_of_eq (h i hi).symm)
theorem open_tb {t tc te tx tv : TypeId} {f0 f1 f2 f3 g0 g1 g2 g3 g4 g5 e0 e1 e2 e3 v0 v1 v2 : Field} (E : IsTb P t tc te f0 f1 f2 f3) (C : IsCo P tc g0 g1 g2 g3 g4 g5) (X : IsEx P te tx tv e0 e1 e2 e3) (V : IsVal P tv v0 v1 v2)
    (fuel : Nat) {cs : List Value} {x : DataW H × List MemPlace}
    (h : DataW.trod enc P w 0 (fun _ => true) true fuel t cs = some x) : ∃ c : Tb, cs = c.cs ∧ InT w c ∧ wtT c ≤ Rows.uptoBulk x.1 := by
  obtain ⟨xs, m, hm, hx, hlen, hl, hf⟩ := DataW.trod_struct E.ht h
  rw [E.ce] at hlen
  match xs, hl with
  | [y0, y1, y2, y3], _ =>
    match cs, hlen with
    | [d0, d1, d2, d3], _ =>
      have h0 := hf 0 f0 rfl
      have h1 := hf 1 f1 rfl
      have h2 := hf 2 f2 rfl
      have h3 := hf 3 f3 rfl
      rw [E.o0, E.c0] at h0
      rw [E.o1, E.c1] at h1
      rw [E.o2, E.c2] at h2
      rw [E.o3, E.c3] at h3
      simp only [List.drop_zero, List.drop_succ_cons, List.take_succ_cons, List.take_zero] at h0 h1 h2 h3
      obtain ⟨l0, rfl, m0, b0⟩ := open_str1 E.u0 h0
      obtain ⟨z1, rfl, i1⟩ := open_int1 E.u1 h1
      obtain ⟨A, n, cap, f, q2, hmax, hsum, hok, hrow⟩ := open_row 6 Co.cs Co.Ok wtC E.u2 C.ce m (fun _ => rfl) (by omega) (fun q _ _ _ hh => open_co C q hh) h2
      obtain ⟨A', n', cap', f', q3, hmax', hsum', hok', hrow'⟩ := open_row 6 Ex.cs (InE w) wtE E.u3 X.ce m (fun _ => rfl) (by omega) (fun q _ _ _ hh => open_exw X V q hh) h3
      simp only [List.cons.injEq, and_true] at q2 q3
      subst q2 q3
      obtain ⟨ls, s1, s2, s3⟩ := list_fn n f hok
      refine ⟨⟨l0, z1, A, n, cap, ls, A', n', cap', f'⟩, rfl, ⟨i1, m0, hmax, hmax', ⟨s1, s2, fun hn => ?_⟩, fun hn => ?_⟩, ?_⟩
      · obtain ⟨b, off, e1, e2, e3⟩ := hrow hn
        exact ⟨b, off, e1, e2, fun j hj => by
          rw [show (ls.getD j default) = f j from s3 j hj]
          exact ⟨e3 j hj 0 _ rfl, e3 j hj 1 _ rfl, e3 j hj 2 _ rfl, e3 j hj 3 _ rfl, e3 j hj 4 _ rfl, e3 j hj 5 _ rfl⟩⟩
      · obtain ⟨b, off, e1, e2, e3⟩ := hrow' hn
        exact ⟨b, off, e1, e2, fun j hj => ⟨⟨e3 j hj 0 _ rfl, e3 j hj 1 _ rfl, e3 j hj 2 _ rfl, e3 j hj 3 _ rfl, e3 j hj 4 _ rfl, e3 j hj 5 _ rfl⟩, hok' j hj⟩⟩
      · have p1 := bulk_pos y1.1
        rw [hx]
        simp only [List.map_cons, List.map_nil, Rows.uptoBulk, Rows.uptoBulkAll, wtT]
        rw [sumN_congr (fun i hi => congrArg wtC (s3 i hi))]
        omega
theorem open_sc {t tt tg tc te tx tv : TypeId} {f0 f1 f2 k0 k1 k2 k3 g0 g1 g2 g3 g4 g5 e0 e1 e2 e3 v0 v1 v2 r0 r1 r2 : Field} (S : IsSc P t tt tg f0 f1 f2) (E : IsTb P tt tc te k0 k1 k2 k3) (C : IsCo P tc g0 g1 g2 g3 g4 g5) (X : IsEx P te tx tv e0 e1 e2 e3) (V : IsVal P tv v0 v1 v2) (G : IsGr P tg r0 r1 r2)
    (fuel : Nat) {cs : List Value} {x : DataW H × List MemPlace}
    (h : DataW.trod enc P w 0 (fun _ => true) true fuel t cs = some x) : ∃ c : Sc, cs = [.int .i64 c.ver, .slice c.tA c.tn c.tcap, .slice c.gA c.gn c.gcap] ∧ InS w c ∧ wtS c ≤ Rows.uptoBulk x.1 := by
  obtain ⟨xs, m, hm, hx, hlen, hl, hf⟩ := DataW.trod_struct S.ht h
  rw [S.ce] at hlen
  match xs, hl with
  | [y0, y1, y2], _ =>
    match cs, hlen with
    | [d0, d1, d2], _ =>
      have h0 := hf 0 f0 rfl
      have h1 := hf 1 f1 rfl
      have h2 := hf 2 f2 rfl
      rw [S.o0, S.c0] at h0
      rw [S.o1, S.c1] at h1
      rw [S.o2, S.c2] at h2
      simp only [List.drop_zero, List.drop_succ_cons, List.take_succ_cons, List.take_zero] at h0 h1 h2
      obtain ⟨z0, rfl, i0⟩ := open_int1 S.u0 h0
      obtain ⟨A, n, cap, f, q2, hmax, hsum, hok, hrow⟩ := open_row 4 Tb.cs (InT w) wtT S.u1 E.ce m (fun _ => rfl) (by omega) (fun q _ _ _ hh => open_tb E C X V q hh) h1
      obtain ⟨A', n', cap', f', q3, hmax', hsum', hok', hrow'⟩ := open_row 3 Gr.cs Gr.Ok wtG S.u2 G.ce m (fun _ => rfl) (by omega) (fun q _ _ _ hh => open_gr G q hh) h2
      simp only [List.cons.injEq, and_true] at q2 q3
      subst q2 q3
      obtain ⟨ls, s1, s2, s3⟩ := list_fn n' f' hok'
      refine ⟨⟨z0, A, n, cap, f, A', n', cap', ls⟩, rfl, ⟨i0, hmax, hmax', fun hn => ?_, ⟨s1, s2, fun hn => ?_⟩⟩, ?_⟩
      · obtain ⟨b, off, e1, e2, e3⟩ := hrow hn
        exact ⟨b, off, e1, e2, fun j hj => ⟨⟨e3 j hj 0 _ rfl, e3 j hj 1 _ rfl, e3 j hj 2 _ rfl, e3 j hj 3 _ rfl⟩, hok j hj⟩⟩
      · obtain ⟨b, off, e1, e2, e3⟩ := hrow' hn
        exact ⟨b, off, e1, e2, fun j hj => by
          rw [show (ls.getD j default) = f' j from s3 j hj]
          exact ⟨e3 j hj 0 _ rfl, e3 j hj 1 _ rfl, e3 j hj 2 _ rfl⟩⟩
      · have p0 := bulk_pos y0.1
        rw [hx]
        simp only [List.map_cons, List.map_nil, Rows.uptoBulk, Rows.uptoBulkAll, wtS]
        rw [sumN_congr (fun i hi => congrArg wtG (s3 i hi))]
        omega
/-- Arguments. -/
theorem open_table {t tc te tx tv : TypeId} {f0 f1 f2 f3 g0 g1 g2 g3 g4 g5 e0 e1 e2 e3 v0 v1 v2 : Field} (E : IsTb P t tc te f0 f1 f2 f3) (C : IsCo P tc g0 g1 g2 g3 g4 g5) (X : IsEx P te tx tv e0 e1 e2 e3) (V : IsVal P tv v0 v1 v2)
    {r : Reach} {b0 : Nat} {v : Value} {d : DataW H} {ps : List MemPlace} (hval : Value.okWide P w r b0 t v) (h : DataW.Trod enc P w 0 (fun _ => true) true t v d ps) : ∃ c : Tb, v = c.val ∧ InT w c ∧ wtT c ≤ Rows.uptoBulk d := by
  obtain ⟨cs, rfl, hsz⟩ := okWide_struct E.ht hval
  obtain ⟨fuel, hf⟩ := h
  obtain ⟨e, h1, h2, h3⟩ := open_tb E C X V fuel hf
  refine ⟨e, ?_, h2, h3⟩
  obtain ⟨l⟩ := cs
  simp [Value.cells] at h1
  rw [h1]; rfl
theorem open_schema {t tt tg tc te tx tv : TypeId} {f0 f1 f2 k0 k1 k2 k3 g0 g1 g2 g3 g4 g5 e0 e1 e2 e3 v0 v1 v2 r0 r1 r2 : Field} (S : IsSc P t tt tg f0 f1 f2) (E : IsTb P tt tc te k0 k1 k2 k3) (C : IsCo P tc g0 g1 g2 g3 g4 g5) (X : IsEx P te tx tv e0 e1 e2 e3) (V : IsVal P tv v0 v1 v2) (G : IsGr P tg r0 r1 r2)
    {r : Reach} {b0 : Nat} {v : Value} {d : DataW H} {ps : List MemPlace} (hval : Value.okWide P w r b0 t v) (h : DataW.Trod enc P w 0 (fun _ => true) true t v d ps) : ∃ c : Sc, v = c.val ∧ InS w c ∧ wtS c ≤ Rows.uptoBulk d := by
  obtain ⟨cs, rfl, hsz⟩ := okWide_struct S.ht hval
  obtain ⟨fuel, hf⟩ := h
  obtain ⟨e, h1, h2, h3⟩ := open_sc S E C X V G fuel hf
  refine ⟨e, ?_, h2, h3⟩
  obtain ⟨l⟩ := cs
  simp [Value.cells] at h1
  rw [h1]; rfl
end
theorem isCo_ex : ∃ f0 f1 f2 f3 f4 f5, IsCo Tryz.prog 54 f0 f1 f2 f3 f4 f5 :=
  ⟨_, _, _, _, _, _, Tryz.underlying54, by kernel_rfl, rfl, rfl, rfl, rfl, rfl, rfl, by kernel_rfl, by kernel_rfl, by kernel_rfl, by kernel_rfl, by kernel_rfl, by kernel_rfl, Tryz.underlying9, Tryz.underlying3, Tryz.underlying4, Tryz.underlying4, Tryz.underlying9, Tryz.underlying3⟩
theorem isGr_ex : ∃ f0 f1 f2, IsGr Tryz.prog 50 f0 f1 f2 :=
  ⟨_, _, _, Tryz.underlying50, by kernel_rfl, rfl, rfl, rfl, by kernel_rfl, by kernel_rfl, by kernel_rfl, Tryz.underlying3, Tryz.underlying9, Tryz.underlying3⟩
theorem isTb_ex : ∃ f0 f1 f2 f3, IsTb Tryz.prog 32 54 67 f0 f1 f2 f3 :=
  ⟨_, _, _, _, Tryz.underlying32, by kernel_rfl, rfl, rfl, rfl, rfl, by kernel_rfl, by kernel_rfl, by kernel_rfl, by kernel_rfl, Tryz.underlying9, Tryz.underlying3, Tryz.underlying29, Tryz.underlying30⟩
theorem isSc_ex : ∃ f0 f1 f2, IsSc Tryz.prog 25 32 50 f0 f1 f2 :=
  ⟨_, _, _, Tryz.underlying25, by kernel_rfl, rfl, rfl, rfl, by kernel_rfl, by kernel_rfl, by kernel_rfl, Tryz.underlying3, Tryz.underlying22, Tryz.underlying23⟩
end Go.Proofs.YtnhalfdddcjicaaGreat
