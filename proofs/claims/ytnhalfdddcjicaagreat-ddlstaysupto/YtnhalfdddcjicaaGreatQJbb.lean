/- What Apply answers, in the words of trees; how much the schema that it makes holds. -/
/- 'append(b, s...)' of a string onto bytes that are owned and not nil: where the new row lies. -/
/- The walks of package pack's Writer.Str and Writer.Bool. -/
import Derived.Test.YtnhalfdddcjicaaGreatQJba
import Derived.Test.YtnhalfdddcjicaaGreatQJaa
import Derived.Lib.AppendStr
import Derived.Test.YtnhalfdddcjicaaGreatQJao
import Derived.Test.YtnhalfdddcjicaaGreatQJae
namespace Go.Proofs.YtnhalfdddcjicaaGreat

def vnext (v : Int) : Int := IntKind.i64.wrap (v + 1)
def KindG (put : Bool) (k : Int) : Prop := if put = true then k = 8 else k = 9
/-- A statement's error, but for the schema's size; the tree of the schema behind it. -/
def AppT (s : Sc) (role : Int) (st : St) (er : Int) (X : Sd) : Prop :=
  (¬ (0 ≤ role ∧ role ≤ 7) ∧ er = 14) ∨ ((0 ≤ role ∧ role ≤ 7) ∧
   ((isD st.kind = false ∧ er = 1) ∨
    (st.kind = 6 ∧ ErrC s role st.def_ er ∧ (er = 0 → X = ⟨vnext s.ver, (treeS s).tabs ++ [treeT (st.def_.own role)], s.grants⟩)) ∨
    (st.kind = 7 ∧ ErrD s role st.table er ∧ (er = 0 → ∃ j, tabAt s st.table = some j ∧ X = ⟨vnext s.ver, (treeS s).tabs.eraseIdx j, woG st.table s.grants⟩)) ∨
    (∃ put, KindG put st.kind ∧ ((er ≠ 0 ∧ ErrO s role st.table er) ∨ (ErrO s role st.table 0 ∧ ∃ gs', GiveR put s.grants st.gr er gs' ∧ (er = 0 → X = ⟨vnext s.ver, (treeS s).tabs, gs'⟩))))))
/-- .. with the schema's size. -/
def AppF (s : Sc) (role : Int) (st : St) (er : Int) (o : Sc) : Prop :=
  ∃ e0 X, AppT s role st e0 X ∧ ((e0 ≠ 0 ∧ er = e0 ∧ o = noS) ∨ (e0 = 0 ∧ 8192 < (encSd X).length ∧ er = 3 ∧ o = noS) ∨ (e0 = 0 ∧ (encSd X).length ≤ 8192 ∧ er = 0 ∧ treeS o = X))
theorem place_uniq {gs : List Gr} {r : Int} {t : List UInt8} {i j : Nat} {b b' : Bool} (hs : SortedG gs) (h : PlaceG gs r t i b) (h' : PlaceG gs r t j b') : b = b' ∧ (b = true → i = j) := by
  cases b with
  | true =>
    obtain ⟨h1, h2, h3⟩ := h.yes rfl
    cases b' with
    | true =>
      obtain ⟨k1, k2, k3⟩ := h'.yes rfl
      exact ⟨rfl, fun _ => place_one hs h1 k1 (h2.trans k2.symm) (h3.trans k3.symm)⟩
    | false => exact absurd ⟨h2, h3⟩ (place_none h' hs i h1)
  | false =>
    cases b' with
    | true =>
      obtain ⟨k1, k2, k3⟩ := h'.yes rfl
      exact absurd ⟨k2, k3⟩ (place_none h hs j k1)
    | false => exact ⟨rfl, fun e => by cases e⟩
theorem put_uniq {gs x y : List Gr} {g : Gr} {e e' : Int} (hs : SortedG gs) (h : PutR gs g e x) (h' : PutR gs g e' y) : e = e' ∧ (e = 0 → x = y) := by
  have he : e = e' := by
    rcases h with ⟨h1, h2, _⟩ | ⟨h1, i, b, hp, h⟩ <;> rcases h' with ⟨h1', h2', _⟩ | ⟨h1', i', b', hp', h'⟩
    · rw [h2, h2']
    · rw [h1] at h1'; cases h1'
    · rw [h1] at h1'; cases h1'
    · obtain ⟨rfl, -⟩ := place_uniq hs hp hp'
      rcases h with ⟨a1, a2, a3, _⟩ | ⟨a1, a2, a3, _⟩ | ⟨a1, a3, _⟩ <;> rcases h' with ⟨c1, c2, c3, _⟩ | ⟨c1, c2, c3, _⟩ | ⟨c1, c3, _⟩ <;> first | exact a3.trans c3.symm | omega | (rw [a1] at c1; cases c1)
  refine ⟨he, fun h0 => ?_⟩
  subst h0
  rw [← he] at h'
  obtain ⟨p1, p2⟩ := put_spec hs h
  obtain ⟨q1, q2⟩ := put_spec hs h'
  exact sorted_ext p1 q1 fun r t => by rw [p2, q2]
theorem take_uniq {gs x y : List Gr} {g : Gr} {e e' : Int} (hs : SortedG gs) (h : TakeR gs g e x) (h' : TakeR gs g e' y) : e = e' ∧ (e = 0 → x = y) := by
  have he : e = e' := by
    rcases h with ⟨h1, h2, _⟩ | ⟨h1, h2, _⟩ <;> rcases h' with ⟨h1', h2', _⟩ | ⟨h1', h2', _⟩
    · rw [h2, h2']
    · rw [h1] at h1'; cases h1'
    · rw [h1] at h1'; cases h1'
    · rw [h2, h2']
  refine ⟨he, fun h0 => ?_⟩
  subst h0
  rw [← he] at h'
  obtain ⟨p1, -, p2⟩ := take_spec hs h
  obtain ⟨q1, -, q2⟩ := take_spec hs h'
  exact sorted_ext p1 q1 fun r t => by rw [p2, q2]
theorem give_uniq {put : Bool} {gs x y : List Gr} {g : Gr} {e e' : Int} (hs : SortedG gs) (h : GiveR put gs g e x) (h' : GiveR put gs g e' y) : e = e' ∧ (e = 0 → x = y) := by
  cases put with
  | true => exact put_uniq hs h h'
  | false => exact take_uniq hs h h'
theorem ErrD.one {s : Sc} {role : Int} {x : List UInt8} {e e' : Int} (h : ErrD s role x e) (h' : ErrD s role x e') : e = e' := by
  unfold ErrD at h h'
  rcases h with ⟨a, b⟩ | ⟨a, ⟨b, c⟩ | ⟨b, c⟩⟩ <;> rcases h' with ⟨a', b'⟩ | ⟨a', ⟨b', c'⟩ | ⟨b', c'⟩⟩ <;> first | exact a.one a' | omega | (have := a.one a'; omega) | exact absurd b b' | exact absurd b' b
theorem kind_put {put put' : Bool} {k : Int} (h : KindG put k) (h' : KindG put' k) : put = put' := by
  unfold KindG at h h'
  cases put <;> cases put' <;> simp at h h' <;> first | rfl | omega
theorem kindG_is {put : Bool} {k : Int} (h : KindG put k) : isD k = true ∧ k ≠ 6 ∧ k ≠ 7 := by
  unfold KindG at h
  cases put <;> simp at h <;> subst h <;> decide
theorem AppT.one {s : Sc} {role : Int} {st : St} {e e' : Int} {X X' : Sd} (hs : SortedG s.grants) (h : AppT s role st e X) (h' : AppT s role st e' X') : e = e' ∧ (e = 0 → X = X') := by
  unfold AppT at h h'
  rcases h with ⟨a, b⟩ | ⟨a, h⟩
  · rcases h' with ⟨a', b'⟩ | ⟨a', h'⟩
    · exact ⟨by omega, fun h => by omega⟩
    · exact absurd a' a
  rcases h' with ⟨a', b'⟩ | ⟨-, h'⟩
  · exact absurd a a'
  rcases h with ⟨a, b⟩ | ⟨a, b, c⟩ | ⟨a, b, c⟩ | ⟨put, a, h⟩ <;> rcases h' with ⟨a', b'⟩ | ⟨a', b', c'⟩ | ⟨a', b', c'⟩ | ⟨put', a', h'⟩
  · exact ⟨by omega, fun h => by omega⟩
  · rw [a'] at a; exact absurd a (by decide)
  · rw [a'] at a; exact absurd a (by decide)
  · rw [(kindG_is a').1] at a; cases a
  · rw [a] at a'; exact absurd a' (by decide)
  · have := b.one b'
    exact ⟨this, fun h => by rw [c h, c' (by omega)]⟩
  · omega
  · exact absurd a (kindG_is a').2.1
  · rw [a] at a'; exact absurd a' (by decide)
  · omega
  · have := b.one b'
    refine ⟨this, fun h => ?_⟩
    obtain ⟨j, k1, k2⟩ := c h
    obtain ⟨j', k1', k2'⟩ := c' (by omega)
    rw [k1] at k1'
    injection k1' with k1'
    rw [k2, k2', k1']
  · exact absurd a (kindG_is a').2.2
  · rw [(kindG_is a).1] at a'; cases a'
  · exact absurd a' (kindG_is a).2.1
  · exact absurd a' (kindG_is a).2.2
  · obtain rfl := kind_put a a'
    rcases h with ⟨h1, h2⟩ | ⟨h1, g, h2, h3⟩ <;> rcases h' with ⟨h1', h2'⟩ | ⟨h1', g', h2', h3'⟩
    · exact ⟨h2.one h2', fun h => absurd h h1⟩
    · exact absurd (h2.one h1') h1
    · exact absurd (h2'.one h1) h1'
    · obtain ⟨k1, k2⟩ := give_uniq hs h2 h2'
      exact ⟨k1, fun h => by rw [h3 h, h3' (by omega), k2 h]⟩
theorem AppF.one {s : Sc} {role : Int} {st : St} {e e' : Int} {o o' : Sc} (hs : SortedG s.grants) (h : AppF s role st e o) (h' : AppF s role st e' o') : e = e' ∧ treeS o = treeS o' := by
  obtain ⟨e0, X, hX, h⟩ := h
  obtain ⟨e0', X', hX', h'⟩ := h'
  obtain ⟨k1, k2⟩ := hX.one hs hX'
  subst k1
  rcases h with ⟨a, b, c⟩ | ⟨a, b, c, d⟩ | ⟨a, b, c, d⟩ <;> rcases h' with ⟨a', b', c'⟩ | ⟨a', b', c', d'⟩ | ⟨a', b', c', d'⟩
  · exact ⟨by omega, by rw [c, c']⟩
  · exact absurd a' a
  · exact absurd a' a
  · exact absurd a a'
  · exact ⟨by omega, by rw [d, d']⟩
  · rw [k2 a] at b; omega
  · exact absurd a a'
  · rw [k2 a] at b; omega
  · exact ⟨by omega, by rw [d, d', k2 a]⟩

/-- How much lists hold. -/
def wtL (L : List Tb) : Nat := (L.map wtT).sum
def wtGs (gs : List Gr) : Nat := (gs.map wtG).sum
theorem sum_range {α : Type} [Inhabited α] (f : α → Nat) (l : List α) : sumN l.length (fun j => f (l.getD j default)) = (l.map f).sum := by
  unfold sumN
  congr 1
  apply List.ext_getElem
  · simp
  · intro i h1 h2
    simp at h1 h2 ⊢
    rw [List.getElem?_eq_getElem h2]; rfl
theorem wt_out (ver : Int) (A : Option Addr) (c : Nat) (L : List Tb) (A' : Option Addr) (c' : Nat) (gs : List Gr) : wtS (outSc ver A c L A' c' gs) = 3 + wtL L + wtGs gs := by
  unfold wtS outSc wtL wtGs
  simp only
  rw [sum_range wtT L, sum_range wtG gs]
theorem wtG_set {gs : List Gr} {i : Nat} (b : Int) (hi : i < gs.length) : wtGs (gs.set i ⟨(atG gs i).role, (atG gs i).table, b⟩) = wtGs gs := by
  unfold wtGs
  rw [List.set_eq_take_append_cons_drop, if_pos hi]
  conv => rhs; rw [split_at hi]
  simp only [List.map_append, List.map_cons, List.sum_append, List.sum_cons, wtG]
theorem wt_give {put : Bool} {gs gs' : List Gr} {g : Gr} {er : Int} (h : GiveR put gs g er gs') : wtGs gs' ≤ wtGs gs + wtG g := by
  have hsplit : ∀ i, wtGs (gs.take i) + wtGs (gs.drop i) = wtGs gs := fun i => by
    unfold wtGs
    rw [← List.sum_append, ← List.map_append, List.take_append_drop]
  unfold GiveR at h
  cases put with
  | true =>
    rcases h with ⟨_, _, rfl⟩ | ⟨_, i, b, hp, ⟨_, _, _, rfl⟩ | ⟨_, _, _, rfl⟩ | ⟨rfl, _, rfl⟩⟩
    · simp [wtGs]
    · simp [wtGs]
    · have := hsplit i
      unfold wtGs at this ⊢
      simp only [List.map_append, List.map_cons, List.sum_append, List.sum_cons]
      omega
    · rw [wtG_set _ (hp.yes rfl).1]; omega
  | false =>
    rcases h with ⟨_, _, rfl⟩ | ⟨_, _, i, b, hp, ⟨_, rfl⟩ | ⟨rfl, _, rfl⟩ | ⟨rfl, _, rfl⟩⟩
    · simp [wtGs]
    · omega
    · rw [wtG_set _ (hp.yes rfl).1]; omega
    · have hi := (hp.yes rfl).1
      have e : wtGs gs = wtGs (gs.take i ++ atG gs i :: gs.drop (i + 1)) := congrArg wtGs (split_at hi)
      rw [e]
      unfold wtGs
      simp only [List.map_append, List.map_cons, List.sum_append, List.sum_cons]
      omega
theorem wt_erase (L : List Tb) (j : Nat) : wtL (L.eraseIdx j) ≤ wtL L := by
  unfold wtL
  rw [List.eraseIdx_eq_take_drop_succ, List.map_append, List.sum_append]
  have h1 : (L.map wtT).sum = ((L.take j).map wtT).sum + ((L.drop j).map wtT).sum := by rw [← List.sum_append, ← List.map_append, List.take_append_drop]
  have h2 : ((L.drop (j + 1)).map wtT).sum ≤ ((L.drop j).map wtT).sum := by
    by_cases hj : j < L.length
    · rw [List.drop_eq_getElem_cons hj, List.map_cons, List.sum_cons]; omega
    · rw [List.drop_eq_nil_of_le (by omega), List.drop_eq_nil_of_le (by omega)]; simp
  omega
theorem wt_wo (x : List UInt8) : ∀ gs : List Gr, wtGs (woG x gs) ≤ wtGs gs
  | [] => Nat.le_refl _
  | g :: r => by
    have ih := wt_wo x r
    unfold wtGs woG at ih ⊢
    rw [List.filter_cons]
    split
    · simp only [List.map_cons, List.sum_cons]; omega
    · simp only [List.map_cons, List.sum_cons]; omega
theorem flat_wt {α : Type} (f : α → List UInt8) (g : α → Nat) : ∀ l : List α, (∀ x ∈ l, (f x).length ≤ 10 * g x) → (l.map f).flatten.length ≤ 10 * (l.map g).sum
  | [], _ => by simp
  | a :: r, h => by
    have ih := flat_wt f g r fun x hx => h x (List.mem_cons_of_mem _ hx)
    have h1 := h a (List.mem_cons_self ..)
    simp only [List.map_cons, List.flatten_cons, List.length_append, List.sum_cons]
    omega
theorem mem_wt {α : Type} {g : α → Nat} {x : α} : ∀ {l : List α}, x ∈ l → g x ≤ (l.map g).sum
  | [], h => by simp at h
  | a :: r, h => by
    simp only [List.map_cons, List.sum_cons]
    rcases List.mem_cons.1 h with rfl | h
    · omega
    · have := mem_wt (g := g) h; omega
theorem enc_out {w : World} {ver : Int} {L : List Tb} {gs : List Gr} (hv : I64 ver) (hL : ∀ x ∈ L, InT w x) (hG : ∀ g ∈ gs, g.Ok) (hn : L.length ≤ 2000000 ∧ gs.length ≤ 2000000) (ht : ∀ x ∈ L, wtT x ≤ 2000000) (hg : ∀ x ∈ gs, wtG x ≤ 2000000) : (encSd ⟨ver, L.map treeT, gs⟩).length ≤ 30 + 10 * (wtL L + wtGs gs) := by
  have h1 : ((L.map treeT).map encT).flatten.length ≤ 10 * wtL L := by
    rw [List.map_map]
    exact flat_wt (encT ∘ treeT) wtT L fun x hx => (encT_wt (hL x hx) (ht x hx)).1
  have h2 := flat_wt encG wtG gs fun x hx => (encG_wt (hG x hx) (hg x hx)).1
  have e1 := enc_len hv
  have e2 := enc_len (n := ((L.map treeT).length : Int)) (by rw [List.length_map]; unfold I64; omega)
  have e3 := enc_len (n := (gs.length : Int)) (by unfold I64; omega)
  unfold encSd wtGs at *
  simp only [List.length_append]
  omega
end Go.Proofs.YtnhalfdddcjicaaGreat

namespace Go.Proofs.YtnhalfdddcjicaaGreat
open Go.RowKit

theorem strCells_mk (l : List UInt8) : Lib.strCells ⟨l.toArray⟩ = Lib.byteCells l := by simp [Lib.strCells, Lib.byteCells]

section
variable {P : Program} {w : World}
theorem run_append_str (base : Nat) (t u ty e : TypeId) (i : TypeInfo) (ht : P.underlying t = some (.slice e)) (hu : P.underlying u = some .string) (hi : P.info? e = some i) (hz : i.zero = some (.int .u8 0))
    (hsize : i.size = 1) (hby : i.bytes = 1) (g n cap : Nat) (xs s : List UInt8) (ho : Owns w base e (.slice (some ⟨g, 0, none⟩) n cap) xs) (hs : xs.length + s.length ≤ 140737488355328) (hb : base ≤ w.heap.size) :
    ∃ g' m' cap' w', (Builtin.append_ #[t, u] ty #[.slice (some ⟨g, 0, none⟩) n cap, .string ⟨s.toArray⟩]).run P w = .ok (.slice (some ⟨g', 0, none⟩) m' cap') w' ∧
      Owns w' base e (.slice (some ⟨g', 0, none⟩) m' cap') (xs ++ s) ∧ Grew w (.slice (some ⟨g, 0, none⟩) n cap) w' (.slice (some ⟨g', 0, none⟩) m' cap') := by
  have hsz : (ByteArray.mk s.toArray).size = s.length := by simp [ByteArray.size]
  obtain ⟨v', w', hr, h2, h3, _⟩ := Lib.run_append_own_string (P := P) w base t u ty e i ht hu hi hz hsize hby _ xs.length (Lib.byteCells xs) ho ⟨s.toArray⟩ (by rw [hsz]; unfold maxLen; omega) (by rw [hsz]; omega) hb
  have hn : n = xs.length := by
    rcases ho.2 with ⟨h, _⟩ | ⟨g1, c1, cur, h, _⟩
    · cases h
    · injection h
  subst hn
  obtain ⟨cur, hg, hnc, hcs⟩ : ∃ cur, w.heap[g]? = some (.cells cur e (0, 0)) ∧ xs.length ≤ cap ∧ cur.size = cap := by
    rcases ho.2 with ⟨h, _⟩ | ⟨g1, c1, cur, h, _, h5, h6, _, h8, _⟩
    · cases h
    · injection h with h7 _ h9
      injection h7 with h7
      injection h7 with h7
      subst h7; subst h9
      exact ⟨cur, h5, h6, by simpa using h8⟩
  have key : ∃ g' m' cap', v' = .slice (some ⟨g', 0, none⟩) m' cap' ∧ (g' = g ∨ g' = w.heap.size) := by
    by_cases hroom : xs.length + (ByteArray.mk s.toArray).size ≤ cap
    · have hr2 := Lib.run_append_room_string (P := P) w t u ty e i ht hu hi hsize g xs.length cap cur hg ⟨s.toArray⟩ hroom (by omega)
      rw [hr] at hr2
      injection hr2 with h4 _
      exact ⟨_, _, _, h4, .inl rfl⟩
    · have holds := World.ownsRow.cells ho (g := g) rfl
      have hr2 := Lib.run_append_grow_string (P := P) w t u ty e i (.int .u8 0) ht hu hi hz ⟨g, 0, none⟩ xs.length cap (Lib.byteCells xs) (by rw [hsize, Lib.byteCells_length, Nat.mul_one]) holds ⟨s.toArray⟩ (by omega) (by rw [hsz]; omega)
        (by rw [hby]; exact growslice_fits (by omega) (by rw [hsz]; omega))
      rw [hr] at hr2
      injection hr2 with h4 _
      exact ⟨_, _, _, h4, .inr rfl⟩
  obtain ⟨g', m', cap', rfl, hat⟩ := key
  refine ⟨g', m', cap', w', hr, ?_, h3, fun k hk => ?_⟩
  · rw [hsz, strCells_mk, ← Lib.byteCells_append] at h2
    unfold Owns
    rw [List.length_append]
    exact h2
  · have : g' = k := Option.some.inj hk
    subst this
    rcases hat with h | h
    · exact .inl (by rw [h]; rfl)
    · exact .inr (by omega)

theorem wpList_append_str {ops : Array Oper} {rest : List Oper} {o : Oper} {a : Act} {Q : Exit → Act → World → Prop} (hgd : o.guard = none) (sl x : Operand) (t u : TypeId)
    (hop : o.op = .call { callee := .builtin .append, args := #[sl, x], argTypes := #[t, u] })
    (base : Nat) (e : TypeId) (i : TypeInfo) (ht : P.underlying t = some (.slice e)) (hu : P.underlying u = some .string) (hi : P.info? e = some i) (hz : i.zero = some (.int .u8 0))
    (hsize : i.size = 1) (hby : i.bytes = 1) (g n cap : Nat) (xs s : List UInt8) (hsl : a.eval sl = .slice (some ⟨g, 0, none⟩) n cap) (ho : Owns w base e (.slice (some ⟨g, 0, none⟩) n cap) xs)
    (hx : a.eval x = .string ⟨s.toArray⟩) (hs : xs.length + s.length ≤ 140737488355328) (hb : base ≤ w.heap.size)
    (h : ∀ g' m' cap' w', Owns w' base e (.slice (some ⟨g', 0, none⟩) m' cap') (xs ++ s) → Grew w (.slice (some ⟨g, 0, none⟩) n cap) w' (.slice (some ⟨g', 0, none⟩) m' cap') →
      wpList P ops Q rest (a.put o.dst (.slice (some ⟨g', 0, none⟩) m' cap')) w') : wpList P ops Q (o :: rest) a w := by
  obtain ⟨g', m', cap', w', hr, h2, h3⟩ := run_append_str (P := P) base t u o.type e i ht hu hi hz hsize hby g n cap xs s ho hs hb
  refine wpList_plain hgd fun K hK => ?_
  unfold Oper.wp execOp
  simp only [hop, resolve, invoke, builtin, Sem.run_bind, Sem.run_pure, Result.andThen_ok, List.map_toArray, List.map_cons, List.map_nil, hsl, hx, hr]
  exact hK _ _ (h g' m' cap' w' h2 h3)
end
end Go.Proofs.YtnhalfdddcjicaaGreat

namespace Go.Proofs.YtnhalfdddcjicaaGreat
open Go.RowKit

theorem flat_snoc {α : Type} (f : α → List UInt8) (l : List α) (d : α) (k : Nat) (h : k < l.length) : ((l.take (k + 1)).map f).flatten = ((l.take k).map f).flatten ++ f (l.getD k d) := by
  rw [List.take_succ_eq_append_getElem h, List.map_append, List.flatten_append]
  simp [List.getElem?_eq_getElem h]
theorem flat_split {α : Type} (f : α → List UInt8) (l : List α) (k : Nat) : (l.map f).flatten.length = ((l.take k).map f).flatten.length + ((l.drop k).map f).flatten.length := by
  rw [← List.length_append, ← List.flatten_append, ← List.map_append, List.take_append_drop]

set_option maxRecDepth 100000 in
set_option maxHeartbeats 400000 in
theorem wstr_any (b base : Nat) (v : Value) (xs : List UInt8) (A : Option Addr) (n cap : Nat) (ss : List (List UInt8)) (w : World)
    (hb : At w b 82 #[v]) (ho : Owns w base 5 v xs) (hbase : base ≤ w.heap.size) (hr : Strs w A n ss)
    (hne : 0 < n → ∀ c o, A = some ⟨c, o, none⟩ → c ≠ b ∧ v.ownBlock ≠ some c) (hl : xs.length + (encSs ss).length ≤ 1000000000) (hn : n ≤ 1000000000) :
    Calls Tryz.prog 80 #[.pointer (some ⟨b, 0, none⟩), .slice A n cap] w fun e w' => e = .returned (.tuple #[]) ∧
      ∃ v', At w' b 82 #[v'] ∧ Owns w' base 5 v' (xs ++ encSs ss) ∧ Wgrew w b v w' v' := by
  obtain ⟨i0, hi0, hz0, hz1, hz2⟩ := info_parts info_u8
  go_enter Tryz.func80, Tryz.ntmps80
  go_wp2
  go_loopw [10] (fun i wr => ∃ (k : Nat) (vr : Value), k ≤ n ∧ i = .int .i64 k ∧ At wr b 82 #[vr] ∧ Owns wr base 5 vr (xs ++ encSs (ss.take k)) ∧ Wgrew w b v wr vr) (fun i _ => n - (intOf i).toNat)
  case atStart => exact ⟨0, v, by omega, rfl, hb, by simpa [encSs] using ho, Wgrew.refl _ _ _⟩
  case round =>
    obtain ⟨k, vr, hk, rfl, hbr, hor, hgr⟩ := hrel
    by_cases hlt : k < n
    · obtain ⟨c, off, rfl, hc, hcell⟩ := hr.2 (by omega)
      obtain ⟨hne1, hne2⟩ := hne (by omega) c off rfl
      have hkl : k < ss.length := by rw [hr.1]; exact hlt
      have hsn : encSs (ss.take (k + 1)) = encSs (ss.take k) ++ encS (ss.getD k []) := flat_snoc encS ss [] k hkl
      have hcx := hcell k hlt
      obtain ⟨x, hxe⟩ : ∃ x, ss.getD k [] = x := ⟨_, rfl⟩
      rw [hxe] at hsn hcx
      have hx : wr.cell? ⟨c, off + k, none⟩ = some (.string ⟨x.toArray⟩) := (hgr.cell (p := ⟨c, off + k, none⟩) hc hne1 hne2).trans hcx
      have hcb : wr.cell? ⟨b, 0, none⟩ = some vr := At.cell hbr 0
      have hsp : (encSs ss).length = (encSs (ss.take (k + 1))).length + (encSs (ss.drop (k + 1))).length := flat_split encS ss (k + 1)
      have hsl : (encSs (ss.take (k + 1))).length = (encSs (ss.take k)).length + ((enc x.length).length + x.length) := by rw [hsn, List.length_append]; simp [encS]
      have hlen : xs.length + (encSs (ss.take k)).length + (enc x.length).length + x.length ≤ 1000000000 := by omega
      have hxI : I64 (x.length : Int) := by unfold I64; omega
      have HSN := Lib.hid hsn
      have hvne := owns_apart hor hbr (by decide)
      clear hsn hcx hxe hcell hsp hsl
      go_wp2_with fail
      refine (appendNumber_any x.length hxI base vr _ wr hor (Nat.le_trans hbase hgr.size) (by simp; omega)).mono ?_
      rintro e w1 ⟨g, m, cap1, rfl, ho1, hg1⟩
      have hb1 : At w1 b 82 #[vr] := hbr.grown hg1.grown (fun e => hvne e.symm)
      have hc1 : w1.cell? ⟨b, 0, none⟩ = some vr := At.cell hb1 0
      have hf1 := At.unfrozen hb1 0
      have hvne1 := owns_apart ho1 hb1 (by decide)
      have hb2 : At (w1.setCell ⟨b, 0, none⟩ (.slice (some ⟨g, 0, none⟩) m cap1)) b 82 #[.slice (some ⟨g, 0, none⟩) m cap1] := At.put hb1 0 (.slice (some ⟨g, 0, none⟩) m cap1)
      have ho2 := ho1.far (p := ⟨b, 0, none⟩) hvne1 (.slice (some ⟨g, 0, none⟩) m cap1)
      have hgr2 := hgr.trans (Wgrew.step hg1 b)
      go_wp2_with (at_builtin; refine wpList_append_str rfl (.tmp 28) (.tmp 29) 80 9 rfl base 5 i0 Tryz.underlying80 Tryz.underlying9 hi0 hz0 hz1 hz2 g m cap1 _ x rfl ho2 rfl ?c1 ?c2 ?_)
      case c1 => simp; omega
      case c2 => have := hgr2.size; omega
      intro g3 m3 cap3 w3 ho3 hg3
      have hb3 : At w3 b 82 #[.slice (some ⟨g, 0, none⟩) m cap1] := hb2.grown hg3.grown (fun e => hvne1 e.symm)
      have hc3 : w3.cell? ⟨b, 0, none⟩ = some (.slice (some ⟨g, 0, none⟩) m cap1) := At.cell hb3 0
      have hf3 := At.unfrozen hb3 0
      have hvne3 := owns_apart ho3 hb3 (by decide)
      go_wp2
      refine ⟨⟨k + 1, _, by omega, by go_num, At.put hb3 0 _, ?_, hgr2.trans (Wgrew.step hg3 b)⟩, by simp [intOf]; omega⟩
      rw [HSN.out]
      exact ho3.far hvne3 _
    · go_wp2
      go_end0
      refine ⟨rfl, vr, hbr, ?_, hgr⟩
      rw [List.take_of_length_le (by rw [hr.1]; omega)] at hor
      exact hor

set_option maxRecDepth 100000 in
set_option maxHeartbeats 400000 in
theorem wbool_any (b base : Nat) (v : Value) (xs : List UInt8) (A : Option Addr) (n cap : Nat) (bs : List Bool) (w : World)
    (hb : At w b 82 #[v]) (ho : Owns w base 5 v xs) (hbase : base ≤ w.heap.size) (hr : Bools w A n bs)
    (hne : 0 < n → ∀ c o, A = some ⟨c, o, none⟩ → c ≠ b ∧ v.ownBlock ≠ some c) (hl : xs.length + 10 * n ≤ 100000000) :
    Calls Tryz.prog 107 #[.pointer (some ⟨b, 0, none⟩), .slice A n cap] w fun e w' => e = .returned (.tuple #[]) ∧
      ∃ v', At w' b 82 #[v'] ∧ Owns w' base 5 v' (xs ++ encBs bs) ∧ Wgrew w b v w' v' := by
  go_enter Tryz.func107, Tryz.ntmps107
  go_wp2
  go_loopw [8] (fun i wr => ∃ (k : Nat) (vr : Value), k ≤ n ∧ i = .int .i64 k ∧ At wr b 82 #[vr] ∧ Owns wr base 5 vr (xs ++ encBs (bs.take k)) ∧ (encBs (bs.take k)).length ≤ 10 * k ∧ Wgrew w b v wr vr) (fun i _ => n - (intOf i).toNat)
  case atStart => exact ⟨0, v, by omega, rfl, hb, by simpa [encBs] using ho, by simp [encBs], Wgrew.refl _ _ _⟩
  case round =>
    obtain ⟨k, vr, hk, rfl, hbr, hor, hle, hgr⟩ := hrel
    by_cases hlt : k < n
    · obtain ⟨c, off, rfl, hc, hcell⟩ := hr.2 (by omega)
      obtain ⟨hne1, hne2⟩ := hne (by omega) c off rfl
      have hkl : k < bs.length := by rw [hr.1]; exact hlt
      have hsn : encBs (bs.take (k + 1)) = encBs (bs.take k) ++ encB (bs.getD k false) := flat_snoc encB bs false k hkl
      have hcx := hcell k hlt
      obtain ⟨x, hxe⟩ : ∃ x, bs.getD k false = x := ⟨_, rfl⟩
      rw [hxe] at hsn hcx
      have hx : wr.cell? ⟨c, off + k, none⟩ = some (.bool x) := (hgr.cell (p := ⟨c, off + k, none⟩) hc hne1 hne2).trans hcx
      have HSN := Lib.hid hsn
      clear hsn hcx hxe hcell
      have h1 : I64 1 := by unfold I64; omega
      have h0 : I64 0 := by unfold I64; omega
      cases x with
      | true =>
        go_wp2_with fail
        refine (wint_one b base vr _ 1 wr hbr hor (Nat.le_trans hbase hgr.size) h1 (by simp; omega)).mono ?_
        rintro e w1 ⟨rfl, v1, hb1, ho1, hg1⟩
        go_wp2
        have hln := enc_len h1
        refine ⟨⟨k + 1, v1, by omega, by go_num, hb1, ?_, ?_, hgr.trans hg1⟩, by simp [intOf]; omega⟩
        · rw [HSN.out, ← List.append_assoc]; exact ho1
        · rw [HSN.out, List.length_append]; simp only [encB, if_true]; omega
      | false =>
        go_wp2_with fail
        refine (wint_one b base vr _ 0 wr hbr hor (Nat.le_trans hbase hgr.size) h0 (by simp; omega)).mono ?_
        rintro e w1 ⟨rfl, v1, hb1, ho1, hg1⟩
        go_wp2
        have hln := enc_len h0
        refine ⟨⟨k + 1, v1, by omega, by go_num, hb1, ?_, ?_, hgr.trans hg1⟩, by simp [intOf]; omega⟩
        · rw [HSN.out, ← List.append_assoc]; exact ho1
        · rw [HSN.out, List.length_append]; simp only [encB, Bool.false_eq_true, if_false]; omega
    · go_wp2
      go_end0
      refine ⟨rfl, vr, hbr, ?_, hgr⟩
      rw [List.take_of_length_le (by rw [hr.1]; omega)] at hor
      exact hor
end Go.Proofs.YtnhalfdddcjicaaGreat
