/- Plain mathematics of schemas that change: what their trees tell. No program is named here. -/
/- Statements in memory; the walks of ddl's small functions: Is, place, owned. -/
import Derived.Test.YtnhalfdddcjicaaGreatQJaq
import Derived.Test.YtnhalfdddcjicaaGreatQJar
import Derived.Test.YtnhalfdddcjicaaGreatQJay
import Derived.BigQuiet
namespace Go.Proofs.YtnhalfdddcjicaaGreat

theorem tree_simE : ∀ {a b : Ex}, simE a b → treeE a = treeE b
  | .nil, .nil, _ => rfl
  | .nil, .mk .., h => by rw [simE] at h; exact h.elim; all_goals (intros; simp_all)
  | .mk .., .nil, h => by rw [simE] at h; exact h.elim; all_goals (intros; simp_all)
  | .mk _ _ _ _ _ _ arg, .mk _ _ _ _ _ _ arg', h => by
    rw [simE] at h
    obtain ⟨rfl, rfl, rfl, rfl, h5⟩ := h
    rw [treeE, treeE]
    congr 1
    exact List.map_congr_left fun j hj => tree_simE (h5 j (List.mem_range.1 hj))
theorem tree_simT {a b : Tb} (h : simT a b) : treeT a = treeT b := by
  unfold treeT
  rw [h.name, h.owner, h.cols, ← h.en, List.map_congr_left fun j hj => tree_simE (h.chk j (List.mem_range.1 hj))]
theorem wt_simE : ∀ {a b : Ex}, simE a b → wtE a = wtE b
  | .nil, .nil, _ => rfl
  | .nil, .mk .., h => by rw [simE] at h; exact h.elim; all_goals (intros; simp_all)
  | .mk .., .nil, h => by rw [simE] at h; exact h.elim; all_goals (intros; simp_all)
  | .mk _ _ _ _ _ _ arg, .mk _ _ _ _ _ _ arg', h => by
    rw [simE] at h
    obtain ⟨rfl, rfl, rfl, rfl, h5⟩ := h
    rw [wtE, wtE, sumN_congr fun j hj => wt_simE (h5 j hj)]
theorem wt_simT {a b : Tb} (h : simT a b) : wtT a = wtT b := by
  unfold wtT
  rw [h.name, h.cols, h.cn, ← h.en, sumN_congr fun j hj => wt_simE (h.chk j hj)]
theorem left_simE : ∀ {a b : Ex}, simE a b → ∀ nodes levels, leftE a nodes levels = leftE b nodes levels
  | .nil, .nil, _, _, _ => rfl
  | .nil, .mk .., h, _, _ => by rw [simE] at h; exact h.elim; all_goals (intros; simp_all)
  | .mk .., .nil, h, _, _ => by rw [simE] at h; exact h.elim; all_goals (intros; simp_all)
  | .mk _ _ _ _ n _ arg, .mk _ _ _ _ _ _ arg', h, nodes, levels => by
    rw [simE] at h
    obtain ⟨rfl, rfl, rfl, rfl, h5⟩ := h
    have ih := fun j hj => left_simE (h5 j hj)
    rw [leftE_mk, leftE_mk]
    have key : ∀ k, k ≤ n → leftTo arg nodes levels k = leftTo arg' nodes levels k := fun k => by
      induction k with
      | zero => intro _; rw [leftTo_zero, leftTo_zero]
      | succ k im => intro hk; rw [leftTo_succ, leftTo_succ, im (by omega), ih k (by omega)]
    rw [key n (Nat.le_refl _)]
theorem kindQ_simE {ks : List Int} : ∀ {a b : Ex}, simE a b → kindQ ks a = kindQ ks b
  | .nil, .nil, _ => rfl
  | .nil, .mk .., h => by rw [simE] at h; exact h.elim; all_goals (intros; simp_all)
  | .mk .., .nil, h => by rw [simE] at h; exact h.elim; all_goals (intros; simp_all)
  | .mk op col v _ n _ arg, .mk _ _ _ _ _ _ arg', h => by
    rw [simE] at h
    obtain ⟨rfl, rfl, rfl, rfl, h5⟩ := h
    have ih := fun j hj => kindQ_simE (ks := ks) (h5 j hj)
    rw [kindQ, kindQ]
    by_cases h0 : hasOps op n = false
    · rw [if_pos h0, if_pos h0]
    rw [if_neg h0, if_neg h0]
    by_cases h1 : unused op col v = false
    · rw [if_pos h1, if_pos h1]
    rw [if_neg h1, if_neg h1]
    by_cases e1 : op = 1
    · rw [if_pos e1, if_pos e1]
    by_cases e2 : op = 2
    · rw [if_neg e1, if_neg e1, if_pos e2, if_pos e2]
    have hp : 0 < n := by
      rcases Nat.eq_zero_or_pos n with e | e
      · exact absurd (by subst e; unfold hasOps; rw [if_neg (by omega)]; repeat' split <;> simp) h0
      · exact e
    rw [if_neg e1, if_neg e1, if_neg e2, if_neg e2, ih 0 hp]
    by_cases e7 : op = 7
    · rw [if_pos e7, if_pos e7]
    by_cases e8 : op = 8
    · rw [if_neg e7, if_neg e7, if_pos e8, if_pos e8]
    have hp2 : n = 2 := two_of (by simpa using h0) e1 e2 e7 e8
    rw [if_neg e7, if_neg e7, if_neg e8, if_neg e8, ih 1 (by omega)]
theorem chk_simE {ks : List Int} {a b : Ex} (h : simE a b) : chkE ks a = chkE ks b := by
  unfold chkE kindL
  rw [left_simE h, kindQ_simE h]

/-- What a reference finds: how many columns, the first one's kind. -/
def tgtL (q : Nat × Int) (k : Int) : Int := if q.1 = 0 then 8 else if q.2 = k then 0 else 9
def refL (c : Co) (t : Tb) (look : List UInt8 → Option (Nat × Int)) : Int := if c.ref = t.name then tgtL (t.cn, kind0 t) c.kind else match look c.ref with | none => 8 | some q => tgtL q c.kind
def colL (t : Tb) (look : List UInt8 → Option (Nat × Int)) (i : Nat) : Int :=
  if firstI (fun j => (t.cols.getD j default).name) (t.cols.getD i default).name t.cn < (i : Int) then 4
  else if formB (t.cols.getD i default) = false then 4
  else if i = 0 ∧ keyB (t.cols.getD i default) = false then 4
  else if (t.cols.getD i default).ref = [] then 0 else refL (t.cols.getD i default) t look
def goodL (t : Tb) (look : List UInt8 → Option (Nat × Int)) : Int :=
  if nameN t.name = false then 4 else if roleB t.owner = false then 4 else if t.cn = 0 then 4
  else if 6 < t.cn then 3 else if 4 < t.en then 3
  else if firstE (colL t look) t.cn = 0 then firstE (fun j => chkE (t.cols.map (·.kind)) (t.chk j)) t.en else firstE (colL t look) t.cn
def lookS (s : Sc) (x : List UInt8) : Option (Nat × Int) := (tabAt s x).map fun i => ((s.tab i).cn, kind0 (s.tab i))
theorem good_is (t : Tb) (s : Sc) : goodE t s = goodL t (lookS s) := by
  have h : colE t s = colL t (lookS s) := funext fun i => by
    unfold colE colL refE refL lookS
    have e : ∀ x, firstAt (fun j => (s.tab j).name) x s.tn = tabAt s x := fun _ => rfl
    rw [e]
    cases tabAt s (t.cols.getD i default).ref <;> rfl
  unfold goodE goodL
  rw [h]
theorem firstE_congr {f g : Nat → Int} : ∀ {n : Nat}, (∀ j, j < n → f j = g j) → firstE f n = firstE g n
  | 0, _ => rfl
  | n + 1, h => by rw [firstE, firstE, firstE_congr fun j hj => h j (by omega), h n (by omega)]
theorem getD_mem_or {cs : List Co} (i : Nat) : cs.getD i default ∈ cs ∨ (cs.getD i default).ref = [] := by
  by_cases h : i < cs.length
  · left
    rw [List.getD_eq_getElem?_getD, List.getElem?_eq_getElem h]
    exact List.getElem_mem h
  · right
    rw [List.getD_eq_getElem?_getD, List.getElem?_eq_none (by omega)]
    rfl
theorem goodL_congr {t t' : Tb} (h : simT t t') {look look' : List UInt8 → Option (Nat × Int)} (hl : ∀ c ∈ t.cols, c.ref ≠ [] → c.ref ≠ t.name → look c.ref = look' c.ref) : goodL t look = goodL t' look' := by
  have hc : ∀ i, colL t look i = colL t' look' i := fun i => by
    unfold colL refL kind0
    rw [← h.cols, ← h.cn, ← h.name]
    by_cases h0 : (t.cols.getD i default).ref = []
    · rw [if_pos h0, if_pos h0]
    rw [if_neg h0, if_neg h0]
    by_cases h1 : (t.cols.getD i default).ref = t.name
    · rw [if_pos h1, if_pos h1]
    rw [if_neg h1, if_neg h1]
    rcases getD_mem_or (cs := t.cols) i with hm | hm
    · rw [hl _ hm h0 h1]
    · exact absurd hm h0
  unfold goodL
  rw [← h.name, ← h.owner, ← h.cn, ← h.en, ← h.cols, firstE_congr fun j _ => hc j, firstE_congr fun j hj => chk_simE (ks := t.cols.map (·.kind)) (h.chk j hj)]

/-- The first tree of a name. -/
def findD (T : List Td) (x : List UInt8) : Option Td := T.find? fun t => decide (t.name = x)
def lookD (T : List Td) (x : List UInt8) : Option (Nat × Int) := (findD T x).map fun t => (t.cols.length, (t.cols.getD 0 default).kind)
theorem find_range (g : Nat → Td) (f : Nat → List UInt8) (x : List UInt8) (h : ∀ j, (g j).name = f j) : ∀ n, findD ((List.range n).map g) x = (firstAt f x n).map g
  | 0 => rfl
  | n + 1 => by
    have ih := find_range g f x h n
    unfold findD at ih ⊢
    rw [List.range_succ, List.map_append, List.find?_append, ih, firstAt]
    cases firstAt f x n with
    | some j => rfl
    | none =>
      simp only [Option.map_none, Option.none_or, List.map_cons, List.map_nil, List.find?_cons, List.find?_nil, h]
      by_cases e : f n = x
      · rw [if_pos e, decide_eq_true e]; rfl
      · rw [if_neg e, decide_eq_false e]; rfl
theorem find_tab (s : Sc) (x : List UInt8) : findD (treeS s).tabs x = (tabAt s x).map fun i => treeT (s.tab i) := find_range (fun j => treeT (s.tab j)) (fun j => (s.tab j).name) x (fun _ => rfl) s.tn
theorem cols_len {w : World} {s : Sc} (h : InS w s) {j : Nat} (hj : j < s.tn) : (s.tab j).cols.length = (s.tab j).cn := by
  obtain ⟨_, _, _, _, hc⟩ := h.tabs (by omega)
  exact (hc j hj).2.cols.1
theorem in_tab {w : World} {s : Sc} (h : InS w s) {j : Nat} (hj : j < s.tn) : InT w (s.tab j) := by
  obtain ⟨_, _, _, _, hc⟩ := h.tabs (by omega)
  exact (hc j hj).2
theorem look_is {s : Sc} (h : ∀ j, j < s.tn → (s.tab j).cols.length = (s.tab j).cn) : lookS s = lookD (treeS s).tabs := funext fun x => by
  unfold lookS lookD
  rw [find_tab]
  cases hx : tabAt s x with
  | none => rfl
  | some i =>
    have hi : i < s.tn := (firstAt_some hx).1
    show some ((s.tab i).cn, kind0 (s.tab i)) = some ((s.tab i).cols.length, ((s.tab i).cols.getD 0 default).kind)
    rw [h i hi]
    rfl
theorem tab_none (s : Sc) (x : List UInt8) : tabAt s x = none ↔ findD (treeS s).tabs x = none := by
  rw [find_tab]
  cases tabAt s x <;> simp
theorem find_none {T : List Td} {x : List UInt8} : findD T x = none ↔ ∀ t ∈ T, t.name ≠ x := by
  unfold findD
  rw [List.find?_eq_none]
  simp
/-- What only the trees tell. -/
theorem like_tab {a b : Sc} (h : (treeS a).tabs = (treeS b).tabs) : a.tn = b.tn ∧ ∀ j, j < a.tn → treeT (a.tab j) = treeT (b.tab j) := range_eq h
theorem firstAt_congr {f g : Nat → List UInt8} {x : List UInt8} : ∀ {n : Nat}, (∀ j, j < n → f j = g j) → firstAt f x n = firstAt g x n
  | 0, _ => rfl
  | n + 1, h => by rw [firstAt, firstAt, firstAt_congr fun j hj => h j (by omega), h n (by omega)]
theorem tabAt_like {a b : Sc} (h : (treeS a).tabs = (treeS b).tabs) (x : List UInt8) : tabAt a x = tabAt b x := by
  obtain ⟨h1, h2⟩ := like_tab h
  unfold tabAt
  rw [← h1]
  exact firstAt_congr fun j hj => congrArg Td.name (h2 j hj)
theorem owns_like {a b : Sc} (h : (treeS a).tabs = (treeS b).tabs) (r : Int) (x : List UInt8) : ownsS a r x = ownsS b r x := by
  unfold ownsS
  rw [← tabAt_like h x]
  cases hx : tabAt a x with
  | none => rfl
  | some j => simp only; rw [congrArg Td.owner ((like_tab h).2 j (firstAt_some hx).1 : treeT (a.tab j) = treeT (b.tab j)) |> (fun e : (a.tab j).owner = (b.tab j).owner => e)]
theorem may_like {a b : Sc} (h : (treeS a).tabs = (treeS b).tabs) (hg : a.grants = b.grants) (r : Int) (x : List UInt8) (z : Int) : MayP a r x z ↔ MayP b r x z := by
  unfold MayP
  rw [tabAt_like h, owns_like h, hg]
theorem good_like {w w' : World} {a b : Sc} (ha : InS w a) (hb : InS w' b) (h : (treeS a).tabs = (treeS b).tabs) (t : Tb) : goodE t a = goodE t b := by
  rw [good_is, good_is, look_is fun j hj => cols_len ha hj, look_is fun j hj => cols_len hb hj, h]
/-- Does another table refer to one? -/
def refersS (s : Sc) (x : List UInt8) : Prop := x ≠ [] ∧ ∃ j, j < s.tn ∧ (s.tab j).name ≠ x ∧ ∃ c ∈ (s.tab j).cols, c.ref = x
theorem refers_like {a b : Sc} (h : (treeS a).tabs = (treeS b).tabs) (x : List UInt8) : refersS a x ↔ refersS b x := by
  obtain ⟨h1, h2⟩ := like_tab h
  have hc : ∀ j, j < a.tn → (a.tab j).name = (b.tab j).name ∧ (a.tab j).cols = (b.tab j).cols := fun j hj => ⟨congrArg Td.name (h2 j hj), congrArg Td.cols (h2 j hj)⟩
  unfold refersS
  constructor
  · rintro ⟨h0, j, hj, h3, c, h4, h5⟩
    exact ⟨h0, j, by omega, by rw [← (hc j hj).1]; exact h3, c, by rw [← (hc j hj).2]; exact h4, h5⟩
  · rintro ⟨h0, j, hj, h3, c, h4, h5⟩
    have hj' : j < a.tn := by omega
    exact ⟨h0, j, hj', by rw [(hc j hj').1]; exact h3, c, by rw [(hc j hj').2]; exact h4, h5⟩

/-- A table of another owner. -/
def Tb.own (t : Tb) (r : Int) : Tb := { t with owner := r }
def refsOk (s : Sc) (role : Int) (d : Tb) : Prop := ∀ c ∈ d.cols, c.ref ≠ [] → c.ref ≠ d.name → MayP s role c.ref 16
/-- What is wrong first with a table that is to be made. -/
def ErrC (s : Sc) (role : Int) (d : Tb) (er : Int) : Prop :=
  (tabAt s d.name ≠ none ∧ er = 8) ∨ (tabAt s d.name = none ∧ ((goodE (d.own role) s ≠ 0 ∧ er = goodE (d.own role) s) ∨ (goodE (d.own role) s = 0 ∧
    ((¬ refsOk s role d ∧ er = 14) ∨ (refsOk s role d ∧ ((12 ≤ s.tn ∧ er = 3) ∨ (s.tn < 12 ∧ er = 0)))))))
/-- .. with a table that a role would do something with as its owner does. -/
def ErrO (s : Sc) (role : Int) (x : List UInt8) (er : Int) : Prop := (tabAt s x = none ∧ er = 8) ∨ (tabAt s x ≠ none ∧ ((ownsS s role x = false ∧ er = 14) ∨ (ownsS s role x = true ∧ er = 0)))
theorem ErrC.one {s : Sc} {role : Int} {d : Tb} {e e' : Int} (h : ErrC s role d e) (h' : ErrC s role d e') : e = e' := by
  unfold ErrC at h h'
  rcases h with ⟨a, b⟩ | ⟨a, ⟨b, c⟩ | ⟨b, ⟨c, d⟩ | ⟨c, ⟨d, e⟩ | ⟨d, e⟩⟩⟩⟩ <;> rcases h' with ⟨a', b'⟩ | ⟨a', ⟨b', c'⟩ | ⟨b', ⟨c', d'⟩ | ⟨c', ⟨d', e'⟩ | ⟨d', e'⟩⟩⟩⟩ <;> first | omega | exact absurd a' a | exact absurd a a' | exact absurd b' b | exact absurd b b' | exact absurd c' c | exact absurd c c'
theorem ErrO.one {s : Sc} {role : Int} {x : List UInt8} {e e' : Int} (h : ErrO s role x e) (h' : ErrO s role x e') : e = e' := by
  unfold ErrO at h h'
  rcases h with ⟨a, b⟩ | ⟨a, ⟨b, c⟩ | ⟨b, c⟩⟩ <;> rcases h' with ⟨a', b'⟩ | ⟨a', ⟨b', c'⟩ | ⟨b', c'⟩⟩ <;> first | omega | exact absurd a' a | exact absurd a a' | (rw [b] at b'; cases b')
theorem ErrC.like {w w' : World} {a b : Sc} (ha : InS w a) (hb : InS w' b) (h : (treeS a).tabs = (treeS b).tabs) (hg : a.grants = b.grants) {role : Int} {d : Tb} {e : Int} (he : ErrC a role d e) : ErrC b role d e := by
  have hr : refsOk a role d ↔ refsOk b role d := by
    unfold refsOk
    exact ⟨fun k c hc h0 h1 => (may_like h hg _ _ _).1 (k c hc h0 h1), fun k c hc h0 h1 => (may_like h hg _ _ _).2 (k c hc h0 h1)⟩
  unfold ErrC at he ⊢
  rw [← tabAt_like h, ← good_like ha hb h, ← hr, ← (like_tab h).1]
  exact he
theorem ErrO.like {a b : Sc} (h : (treeS a).tabs = (treeS b).tabs) {role : Int} {x : List UInt8} {e : Int} (he : ErrO a role x e) : ErrO b role x e := by
  unfold ErrO at he ⊢
  rw [← tabAt_like h, ← owns_like h]
  exact he
end Go.Proofs.YtnhalfdddcjicaaGreat

namespace Go.Proofs.YtnhalfdddcjicaaGreat
open Go.RowKit

/-- A statement. -/
structure St where
  kind : Int
  table : List UInt8
  key : Vl
  hi : Vl
  vA : Option Addr
  vn : Nat
  vcap : Nat
  col : List UInt8
  v : Vl
  def_ : Tb
  role : Int
  bits : Int
instance : Inhabited St := ⟨⟨0, [], ⟨0, 0, []⟩, ⟨0, 0, []⟩, none, 0, 0, [], ⟨0, 0, []⟩, default, 0, 0⟩⟩
def St.cells (s : St) : Array Value := #[.int .i64 s.kind, .string ⟨s.table.toArray⟩, .int .i64 s.key.kind, .int .i64 s.key.num, .string ⟨s.key.text.toArray⟩, .int .i64 s.hi.kind, .int .i64 s.hi.num, .string ⟨s.hi.text.toArray⟩, .slice s.vA s.vn s.vcap, .string ⟨s.col.toArray⟩,
  .int .i64 s.v.kind, .int .i64 s.v.num, .string ⟨s.v.text.toArray⟩, .string ⟨s.def_.name.toArray⟩, .int .i64 s.def_.owner, .slice s.def_.cA s.def_.cn s.def_.ccap, .slice s.def_.eA s.def_.en s.def_.ecap, .int .i64 s.role, .int .i64 s.bits]
def St.val (s : St) : Value := .agg s.cells
structure InSt (w : World) (s : St) : Prop where
  kind : I64 s.kind
  table : s.table.length ≤ maxLen
  def_ : InT w s.def_
  role : I64 s.role
  bits : I64 s.bits
theorem InSt.below {w w' : World} (hb : Below w.heap.size w w') {s : St} (h : InSt w s) : InSt w' s := ⟨h.kind, h.table, h.def_.below hb, h.role, h.bits⟩
/-- A statement in a block of its own. -/
structure CellsSt (w : World) (b : Nat) (s : St) : Prop where
  c0 : w.cell? ⟨b, 0, none⟩ = some (.int .i64 s.kind)
  c1 : w.cell? ⟨b, 1, none⟩ = some (.string ⟨s.table.toArray⟩)
  c2 : w.cell? ⟨b, 2, none⟩ = some (.int .i64 s.key.kind)
  c3 : w.cell? ⟨b, 3, none⟩ = some (.int .i64 s.key.num)
  c4 : w.cell? ⟨b, 4, none⟩ = some (.string ⟨s.key.text.toArray⟩)
  c5 : w.cell? ⟨b, 5, none⟩ = some (.int .i64 s.hi.kind)
  c6 : w.cell? ⟨b, 6, none⟩ = some (.int .i64 s.hi.num)
  c7 : w.cell? ⟨b, 7, none⟩ = some (.string ⟨s.hi.text.toArray⟩)
  c8 : w.cell? ⟨b, 8, none⟩ = some (.slice s.vA s.vn s.vcap)
  c9 : w.cell? ⟨b, 9, none⟩ = some (.string ⟨s.col.toArray⟩)
  c10 : w.cell? ⟨b, 10, none⟩ = some (.int .i64 s.v.kind)
  c11 : w.cell? ⟨b, 11, none⟩ = some (.int .i64 s.v.num)
  c12 : w.cell? ⟨b, 12, none⟩ = some (.string ⟨s.v.text.toArray⟩)
  c13 : w.cell? ⟨b, 13, none⟩ = some (.string ⟨s.def_.name.toArray⟩)
  c14 : w.cell? ⟨b, 14, none⟩ = some (.int .i64 s.def_.owner)
  c15 : w.cell? ⟨b, 15, none⟩ = some (.slice s.def_.cA s.def_.cn s.def_.ccap)
  c16 : w.cell? ⟨b, 16, none⟩ = some (.slice s.def_.eA s.def_.en s.def_.ecap)
  c17 : w.cell? ⟨b, 17, none⟩ = some (.int .i64 s.role)
  c18 : w.cell? ⟨b, 18, none⟩ = some (.int .i64 s.bits)
theorem At.stmt {w : World} {b : Nat} {s : St} {t : TypeId} (h : At w b t s.cells) : CellsSt w b s :=
  ⟨h.cell 0, h.cell 1, h.cell 2, h.cell 3, h.cell 4, h.cell 5, h.cell 6, h.cell 7, h.cell 8, h.cell 9, h.cell 10, h.cell 11, h.cell 12, h.cell 13, h.cell 14, h.cell 15, h.cell 16, h.cell 17, h.cell 18⟩

def isD (k : Int) : Bool := decide (6 ≤ k) && decide (k ≤ 9)
theorem dis_any (s : St) (w : World) : Calls Tryz.prog 13 #[s.val] w fun e w' => e = .returned (.bool (isD s.kind)) ∧ Below w.heap.size w w' := by
  have hb := below_box w (.cells s.cells 34)
  have hA := At.fresh w 34 s.cells
  have c0 := hA.stmt.c0
  have H : Hid (isD s.kind = (decide (6 ≤ s.kind) && decide (s.kind ≤ 9))) := rfl
  unfold St.val
  clear hA
  generalize isD s.kind = R at *
  generalize s.kind = k at *
  generalize s.cells = cs at *
  by_cases h6 : 6 ≤ k
  · by_cases h9 : k ≤ 9
    · have HE : Hid (R = true) := by show R = true; rw [H.out, decide_eq_true h6, decide_eq_true h9]; rfl
      go_enter Tryz.func13, Tryz.ntmps13
      go_wp2_with fail
      go_ret
      exact ⟨by rw [HE.out]; rfl, hb⟩
    · have HE : Hid (R = false) := by show R = false; rw [H.out, decide_eq_false h9]; simp
      go_enter Tryz.func13, Tryz.ntmps13
      go_wp2_with fail
      go_ret
      exact ⟨by rw [HE.out]; rfl, hb⟩
  · have HE : Hid (R = false) := by show R = false; rw [H.out, decide_eq_false h6]; simp
    go_enter Tryz.func13, Tryz.ntmps13
    go_wp2_with fail
    go_ret
    exact ⟨by rw [HE.out]; rfl, hb⟩

theorem dplace1_any (t : Tb) (x : List UInt8) (h : Nat) (w : World) (hc : w.cell? ⟨h, 0, none⟩ = some (.string ⟨x.toArray⟩)) :
    Calls Tryz.prog 61 #[t.val, .pointer (some ⟨h, 0, none⟩)] w fun e w' => e = .returned (.bool (decide (t.name = x))) ∧ Below w.heap.size w w' := by
  have hb := below_box w (.cells #[.string ⟨t.name.toArray⟩, .int .i64 t.owner, .slice t.cA t.cn t.ccap, .slice t.eA t.en t.ecap] 32)
  have hlt : h < w.heap.size := World.block_lt_of_cell? w _ hc
  have hne : ¬ h = w.heap.size := by omega
  unfold Tb.val
  go_enter Tryz.func61, Tryz.ntmps61
  go_wp2_with fail
  go_ret
  exact ⟨ret_b (beq_dec _ _), hb⟩
set_option maxRecDepth 100000 in
set_option maxHeartbeats 1600000 in
theorem didxT_any (A : Option Addr) (n cap : Nat) (tab : Nat → Tb) (x : List UInt8) (h : Nat) (w : World) (hr : RowT w A n tab) (hn : n ≤ maxLen) (hc : w.cell? ⟨h, 0, none⟩ = some (.string ⟨x.toArray⟩)) :
    Calls Tryz.prog 60 #[.slice A n cap, .func (.func 61) #[] #[.pointer (some ⟨h, 0, none⟩)]] w fun e w' => e = .returned (.int .i64 (firstI (fun j => (tab j).name) x n)) ∧ Below w.heap.size w w' := by
  unfold maxLen at hn
  have hlt : h < w.heap.size := World.block_lt_of_cell? w _ hc
  go_enter Tryz.func60, Tryz.ntmps60
  go_wp2_with fail
  go_loopw [8] (fun i wr => ∃ k : Nat, k ≤ n ∧ i = .int .i64 k ∧ Below w.heap.size w wr ∧ Hid (firstAt (fun j => (tab j).name) x k = none)) (fun i _ => n - (intOf i).toNat)
  case atStart => exact ⟨0, by omega, rfl, Below.refl _ _, rfl⟩
  case round =>
    obtain ⟨k, hk, rfl, hbr, HF⟩ := hrel
    by_cases hkn : k < n
    · obtain ⟨b, off, rfl, hbl, hcell⟩ := hr (by omega)
      have hcl := (hcell k hkn).1.keep fun i => hbr.cell (p := ⟨b, i, none⟩) hbl
      obtain ⟨c0, c1, c2, c3⟩ := hcl
      have hcr := (hbr.cell (p := ⟨h, 0, none⟩) hlt).trans hc
      have hp := dplace1_any (tab k) x h wr hcr
      have HH := Lib.hid (fun e => first_hit (n := n) HF.out hkn e)
      have HN := Lib.hid (fun e => first_next (f := fun j => (tab j).name) HF.out e)
      clear hcell hr HF hc hcr
      unfold Tb.val at hp
      go_wp2_with fail
      refine hp.mono ?_
      rintro e w2 ⟨rfl, b2⟩
      have hb2 := below_in hbr b2
      by_cases he : (tab k).name = x
      · have hd : decide ((tab k).name = x) = true := by simpa using he
        go_wp2_with fail
        go_ret
        exact ⟨ret_int (HH.out he).symm, hb2⟩
      · have hd : decide ((tab k).name = x) = false := by simpa using he
        go_wp2_with fail
        exact ⟨⟨k + 1, by omega, by go_num, hb2, HN.out he⟩, by simp [intOf]; omega⟩
    · obtain rfl : k = n := by omega
      have HE := Lib.hid (first_none HF.out)
      go_wp2_with fail
      go_ret
      exact ⟨ret_int HE.out.symm, hbr⟩
def placeI (s : Sc) (x : List UInt8) : Int := match tabAt s x with | some j => (j : Int) | none => -1
set_option maxHeartbeats 800000 in
theorem dplace_any (s : Sc) (x : List UInt8) (w : World) (hs : InS w s) :
    Calls Tryz.prog 29 #[s.val, .string ⟨x.toArray⟩] w fun e w' => e = .returned (.int .i64 (placeI s x)) ∧ Below w.heap.size w w' := by
  have hm := hmf
  have b0 := below_box w (.cells #[.int .i64 s.ver, .slice s.tA s.tn s.tcap, .slice s.gA s.gn s.gcap] 25)
  have b1 := below_box (w.alloc (.cells #[.int .i64 s.ver, .slice s.tA s.tn s.tcap, .slice s.gA s.gn s.gcap] 25)) (.cells #[.string ⟨x.toArray⟩] 9)
  have hA := At.fresh (w.alloc (.cells #[.int .i64 s.ver, .slice s.tA s.tn s.tcap, .slice s.gA s.gn s.gcap] 25)) 9 #[.string ⟨x.toArray⟩]
  rw [show (w.alloc (.cells #[.int .i64 s.ver, .slice s.tA s.tn s.tcap, .slice s.gA s.gn s.gcap] 25)).heap.size = w.heap.size + 1 by simp] at hA
  have hb := below_in b0 b1
  have hi := didxT_any s.tA s.tn s.tcap s.tab x (w.heap.size + 1) _ (hs.tabs.below hb) hs.tmax (hA.cell 0)
  rw [show firstI (fun j => (s.tab j).name) x s.tn = placeI s x from firstI_of] at hi
  unfold Sc.val
  clear b0 b1
  go_enter Tryz.func29, Tryz.ntmps29
  go_wp2_with fail
  refine hi.mono ?_
  rintro e w2 ⟨rfl, b2⟩
  go_wp2_with fail
  go_ret
  exact ⟨rfl, below_in hb b2⟩

set_option maxRecDepth 100000 in
set_option maxHeartbeats 1600000 in
theorem owned_any (s : Sc) (r : Int) (x : List UInt8) (w : World) (hs : InS w s) :
    Calls Tryz.prog 72 #[s.val, .int .i64 r, .string ⟨x.toArray⟩] w fun e w' => (∃ er, e = .returned (.int .i64 er) ∧ ErrO s r x er) ∧ Below w.heap.size w w' := by
  have b0 := below_box w (.cells #[.int .i64 s.ver, .slice s.tA s.tn s.tcap, .slice s.gA s.gn s.gcap] 25)
  have aS := At.fresh w 25 #[.int .i64 s.ver, .slice s.tA s.tn s.tcap, .slice s.gA s.gn s.gcap]
  have hP := fun w' (b : Below w.heap.size w w') => dplace_any s x w' (hs.below b)
  have hW := fun w' (b : Below w.heap.size w w') => gowns_any s r x w' (hs.below b)
  have HE : Hid (∀ er, ErrO s r x er → ∃ er', Ending.returned (Value.int .i64 er) = .returned (.int .i64 er') ∧ ErrO s r x er') := by
    show ∀ _, _
    exact fun er h => ⟨er, rfl, h⟩
  unfold Sc.val at hP hW ⊢
  unfold placeI at hP
  cases hf : tabAt s x with
  | none =>
    have HR := Lib.hid (HE.out 8 (.inl ⟨hf, rfl⟩))
    rw [hf] at hP
    simp only at hP
    go_enter Tryz.func72, Tryz.ntmps72
    go_wp2_with fail
    refine (hP _ b0).mono ?_
    rintro e w1 ⟨rfl, b1⟩
    have hb1 := below_in b0 b1
    go_wp2_with fail
    go_ret
    exact ⟨HR.out, hb1⟩
  | some j =>
    have hne : tabAt s x ≠ none := by rw [hf]; intro e; cases e
    rw [hf] at hP
    simp only at hP
    have hj0 : ¬ ((j : Int) < 0) := by omega
    cases ho : ownsS s r x with
    | false =>
      have HR := Lib.hid (HE.out 14 (.inr ⟨hne, .inl ⟨ho, rfl⟩⟩))
      rw [ho] at hW
      clear hne hf
      go_enter Tryz.func72, Tryz.ntmps72
      go_wp2_with fail
      refine (hP _ b0).mono ?_
      rintro e w1 ⟨rfl, b1⟩
      have hb1 := below_in b0 b1
      obtain ⟨c0, c1, c2⟩ := (aS.below b1 aS.lt).tri0
      go_wp2_with fail
      refine (hW _ hb1).mono ?_
      rintro e w2 ⟨rfl, b2⟩
      have hb2 := below_in hb1 b2
      go_wp2_with fail
      go_ret
      exact ⟨HR.out, hb2⟩
    | true =>
      have HR := Lib.hid (HE.out 0 (.inr ⟨hne, .inr ⟨ho, rfl⟩⟩))
      rw [ho] at hW
      clear hne hf
      go_enter Tryz.func72, Tryz.ntmps72
      go_wp2_with fail
      refine (hP _ b0).mono ?_
      rintro e w1 ⟨rfl, b1⟩
      have hb1 := below_in b0 b1
      obtain ⟨c0, c1, c2⟩ := (aS.below b1 aS.lt).tri0
      go_wp2_with fail
      refine (hW _ hb1).mono ?_
      rintro e w2 ⟨rfl, b2⟩
      have hb2 := below_in hb1 b2
      go_wp2_with fail
      go_ret
      exact ⟨HR.out, hb2⟩
end Go.Proofs.YtnhalfdddcjicaaGreat
