/- Rows of tables that are appended; the walk of the reference's apply. -/
import Derived.Test.YtnhalfdddcjicaaGreatQDdL
namespace Go.Proofs.YtnhalfdddcjicaaGreat
open Go.RowKit

theorem tree_list (L : List Tb) : ((List.range L.length).map fun j => treeT (L.getD j default)) = L.map treeT := tree_rowT L
theorem range_get (f : Nat → Tb) (n j : Nat) (hj : j < n) : ((List.range n).map f).getD j default = f j := by simp [hj]
theorem one_tb (a : Tb) : ∀ u ∈ a.cs, u.oneCell' = true := fun u hu => by
  simp [Tb.cs] at hu
  rcases hu with rfl | rfl | rfl | rfl <;> rfl
theorem one_tbs (L : List Tb) : ∀ u ∈ L.flatMap Tb.cs, u.oneCell' = true := fun u hu => by
  obtain ⟨a, _, ha⟩ := List.mem_flatMap.1 hu
  exact one_tb a u ha
set_option maxRecDepth 100000 in
theorem run_append_rowT (w : World) (base : Nat) (ty : TypeId) (v : Value) (n : Nat) (xs : List Value) (h : w.ownsRow base 32 4 v n xs) (A : Option Addr) (m c : Nat) (tab : Nat → Tb) (hr : RowT w A m tab) (hn : n + m ≤ 1000000) (hb : base ≤ w.heap.size) :
    ∃ v' w', (Builtin.append_ #[22, 22] ty #[v, .slice A m c]).run Tryz.prog w = .ok v' w' ∧ w'.ownsRow base 32 4 v' (n + m) (xs ++ ((List.range m).map tab).flatMap Tb.cs) ∧ w.grownBy w' v.ownBlock := by
  obtain ⟨i0, hi0, hz0, hzs, hzb⟩ := info_parts info_table
  cases A with
  | none =>
    have h0 : m = 0 := by
      rcases Nat.eq_zero_or_pos m with h | h
      · exact h
      · obtain ⟨_, _, h1, _⟩ := hr h; cases h1
    subst h0
    refine ⟨v, w, ?_, by simpa using h, World.grownBy.refl _ _⟩
    rcases h.2 with ⟨rfl, rfl⟩ | ⟨g, cap, cur, rfl, _, _, hnc, _⟩
    · simp [Builtin.append_, run_underlying (P := Tryz.prog) Tryz.underlying22, sizeOf, typeInfo, hi0, Builtin.lenOf, Builtin.firstCells]
    · simp [Builtin.append_, run_underlying (P := Tryz.prog) Tryz.underlying22, sizeOf, typeInfo, hi0, Builtin.lenOf, Builtin.firstCells, hnc, storeCells]
  | some ad =>
    have hnews : ∀ j u, (((List.range m).map tab).flatMap Tb.cs)[j]? = some u → w.cell? (ad.add j) = some u := fun j u hu => by
      have hpos : 0 < m := by
        rcases Nat.eq_zero_or_pos m with h | h
        · subst h; simp at hu
        · exact h
      obtain ⟨b, off, e1, e2⟩ := rowT_cells hr hpos
      injection e1 with e1
      subst e1
      exact rows_news4 Tb.cs default (fun _ => rfl) ((List.range m).map tab) w b off (fun j hj i v hv => e2 j (by simpa using hj) i v hv) j u hu
    obtain ⟨v', w', hrun, h2, h3, _, _⟩ := run_append_own_at (P := Tryz.prog) w base 22 ty 32 i0 _ 4 72 Tryz.underlying22 hi0 hz0 hzs hzb rfl (by omega) v n xs h ad m c (((List.range m).map tab).flatMap Tb.cs) (by rw [flat_len4 _ (fun _ => rfl)]; simp) hnews (one_tbs _) (by unfold maxLen; omega) (by omega) hb
    exact ⟨v', w', hrun, h2, h3⟩
theorem wp_append_rowT {o : Oper} {a : Act} {K : Act → World → Prop} {Q : Exit → Act → World → Prop} {w : World} {base : Nat} {v : Value} {n : Nat} {xs : List Value} (sl x : Operand)
    (hop : o.op = .call { callee := .builtin .append, args := #[sl, x], argTypes := #[22, 22] }) (h : w.ownsRow base 32 4 v n xs) (A : Option Addr) (m c : Nat) (tab : Nat → Tb) (hr : RowT w A m tab)
    (hsl : a.eval sl = v) (hx : a.eval x = .slice A m c) (hn : n + m ≤ 1000000) (hb : base ≤ w.heap.size)
    (hQ : ∀ v' w', w'.ownsRow base 32 4 v' (n + m) (xs ++ ((List.range m).map tab).flatMap Tb.cs) → w.grownBy w' v.ownBlock → K (a.put o.dst v') w') : o.wp Tryz.prog a w K Q := by
  obtain ⟨v', w', hrun, h2, h3⟩ := run_append_rowT w base o.type v n xs h A m c tab hr hn hb
  unfold Oper.wp execOp
  simp only [hop, resolve, invoke, builtin, Sem.run_bind, Sem.run_pure, Result.andThen_ok, List.map_toArray, List.map_cons, List.map_nil, hsl, hx, hrun]
  exact hQ v' w' h2 h3

/-- What the reference's apply hands back. -/
def RpE (s : Sc) (role : Int) (st : St) (e : Ending) (w' : World) : Prop := ∃ o er, e = .returned (.tuple #[o.val, .int .i64 er]) ∧ InS w' o ∧ ((er ≠ 0 ∧ o = noS ∧ ∀ X, AppT s role st er X) ∨ (er = 0 ∧ AppT s role st 0 (treeS o)))

/-- A schema whose rows are these. -/
theorem in_lists {w : World} {base base' : Nat} {vn : Int} {tv gv : Value} {L : List Tb} {gs : List Gr} (hv : I64 vn) (ht : w.ownsRow base 32 4 tv L.length (L.flatMap Tb.cs)) (hg : w.ownsRow base' 50 3 gv gs.length (gs.flatMap Gr.cs)) (hL : ∀ x ∈ L, InT w x) (hG : ∀ g ∈ gs, g.Ok) (hl : L.length ≤ 2000000) (hl2 : gs.length ≤ 2000000) :
    ∃ A c A' c', tv = .slice A L.length c ∧ gv = .slice A' gs.length c' ∧ InS w (outSc vn A c L A' c' gs) := by
  obtain ⟨A, c, rfl, hc⟩ := own_cells Tb.cs default (fun _ => rfl) L ht rfl
  obtain ⟨A', c', rfl, hr, -⟩ := own_rowG hg hG
  refine ⟨A, c, A', c', rfl, rfl, hv, by show L.length ≤ maxLen; unfold maxLen; omega, by show gs.length ≤ maxLen; unfold maxLen; omega, fun hn => ?_, hr⟩
  obtain ⟨g, e1, e2, e3, e4⟩ := hc hn
  refine ⟨g, 0, e1, e3, fun j hj => ?_⟩
  have k := e4 j hj
  rw [Nat.zero_add]
  refine ⟨⟨k 0 (by omega), k 1 (by omega), k 2 (by omega), k 3 (by omega)⟩, hL _ ?_⟩
  show L.getD j default ∈ L
  have hj : j < L.length := hj
  rw [List.getD_eq_getElem?_getD, List.getElem?_eq_getElem hj]
  exact List.getElem_mem hj
theorem in_rowG {w : World} {base : Nat} {vn : Int} {tv : Value} {L : List Tb} {A' : Option Addr} {n' c' : Nat} {gs : List Gr} (hv : I64 vn) (ht : w.ownsRow base 32 4 tv L.length (L.flatMap Tb.cs)) (hg : RowG w A' n' gs) (hL : ∀ x ∈ L, InT w x) (hl : L.length ≤ 2000000) (hl2 : n' ≤ maxLen) :
    ∃ A c, tv = .slice A L.length c ∧ InS w ⟨vn, A, L.length, c, fun j => L.getD j default, A', n', c', gs⟩ := by
  obtain ⟨A, c, rfl, hc⟩ := own_cells Tb.cs default (fun _ => rfl) L ht rfl
  refine ⟨A, c, rfl, hv, by show L.length ≤ maxLen; unfold maxLen; omega, hl2, fun hn => ?_, hg⟩
  obtain ⟨g, e1, e2, e3, e4⟩ := hc hn
  refine ⟨g, 0, e1, e3, fun j hj => ?_⟩
  have k := e4 j hj
  rw [Nat.zero_add]
  refine ⟨⟨k 0 (by omega), k 1 (by omega), k 2 (by omega), k 3 (by omega)⟩, hL _ ?_⟩
  show L.getD j default ∈ L
  have hj : j < L.length := hj
  rw [List.getD_eq_getElem?_getD, List.getElem?_eq_getElem hj]
  exact List.getElem_mem hj

theorem rp_give {w w' : World} {s : Sc} {role : Int} {st : St} {vn : Int} {A' : Option Addr} {c' : Nat} {gs' : List Gr} {put : Bool} (HF : ∀ o w', InS w' o → AppT s role st 0 (treeS o) → RpE s role st (.returned (.tuple #[o.val, .int .i64 0])) w') (hs : InS w s) (hr : 0 ≤ role ∧ role ≤ 7) (hk : KindG put st.kind) (hO : ErrO s role st.table 0) (hg : GiveR put s.grants st.gr 0 gs') (hvn : vnext s.ver = vn) (hvI : I64 vn) (hl : gs'.length ≤ 1000) (hbw : Below w.heap.size w w')
    (hrow : RowG w' A' gs'.length gs') : RpE s role st (.returned (.tuple #[.agg #[.int .i64 vn, .slice s.tA s.tn s.tcap, .slice A' gs'.length c'], .int .i64 0])) w' := by
  have hin : InS w' ⟨vn, s.tA, s.tn, s.tcap, s.tab, A', gs'.length, c', gs'⟩ := ⟨hvI, hs.tmax, by show gs'.length ≤ maxLen; unfold maxLen; omega, hs.tabs.below hbw, hrow⟩
  exact HF _ w' hin (.inr ⟨hr, .inr (.inr (.inr ⟨put, hk, .inr ⟨hO, gs', hg, fun _ => by rw [hvn]; rfl⟩⟩))⟩)
def erL (tab : Nat → Tb) (j k : Nat) : List Tb := ((List.range k).map tab).eraseIdx j
theorem er_len (tab : Nat → Tb) (j k : Nat) : (erL tab j k).length ≤ k := by
  unfold erL
  have := List.length_eraseIdx_le ((List.range k).map tab) j
  simpa using this
theorem er_next (tab : Nat → Tb) (j k : Nat) : erL tab j (k + 1) = if k = j then erL tab j k else erL tab j k ++ [tab k] := by
  unfold erL
  rw [List.range_succ, List.map_append]
  simp only [List.map_cons, List.map_nil]
  by_cases h : j < k
  · rw [if_neg (by omega), List.eraseIdx_append_of_lt_length (by simpa using h)]
  · rw [List.eraseIdx_append_of_length_le (by simp; omega), List.length_map, List.length_range, List.eraseIdx_of_length_le (l := (List.range k).map tab) (by simp; omega)]
    by_cases e : k = j
    · subst e; simp
    · rw [if_neg e, List.eraseIdx_of_length_le (by simp; omega)]
theorem own_apart {w : World} {base base' n n' k k' : Nat} {e e' : TypeId} {v v' : Value} {xs xs' : List Value} (h : w.ownsRow base e k v n xs) (h' : w.ownsRow base' e' k' v' n' xs') (hne : e ≠ e') {g : Nat} (hg : v.ownBlock = some g) (hg' : v'.ownBlock = some g) : False := by
  rcases h'.2 with ⟨rfl, _⟩ | ⟨g', cap, cur, rfl, _, hh, _⟩
  · simp [Value.ownBlock] at hg'
  · obtain rfl : g' = g := Option.some.inj hg'
    exact block_ne h (show At w g' _ cur from hh) hne hg
theorem rp_drop {w w' : World} {s : Sc} {role : Int} {st : St} {vn : Int} {Z j : Nat} {A : Option Addr} {c : Nat} {A' : Option Addr} {c' : Nat} (HF : ∀ o w', InS w' o → AppT s role st 0 (treeS o) → RpE s role st (.returned (.tuple #[o.val, .int .i64 0])) w') (hs : InS w s) (hr : 0 ≤ role ∧ role ≤ 7) (k7 : st.kind = 7) (hE : ErrD s role st.table 0) (hj : tabAt s st.table = some j) (hvn : vnext s.ver = vn) (hvI : I64 vn) (htn : s.tn ≤ 100000) (hgm : s.gn ≤ 64) (hbw : Below w.heap.size w w')
    (h1 : w'.ownsRow Z 32 4 (.slice A (erL s.tab j s.tn).length c) (erL s.tab j s.tn).length ((erL s.tab j s.tn).flatMap Tb.cs)) (h2 : w'.ownsRow Z 50 3 (.slice A' (woG st.table s.grants).length c') (woG st.table s.grants).length ((woG st.table s.grants).flatMap Gr.cs)) :
    RpE s role st (.returned (.tuple #[.agg #[.int .i64 vn, .slice A (erL s.tab j s.tn).length c, .slice A' (woG st.table s.grants).length c'], .int .i64 0])) w' := by
  have hl1 := er_len s.tab j s.tn
  have hl2 := wo_len st.table s.grants
  obtain ⟨A2, c2, A3, c3, e1, e2, hin⟩ := in_lists (vn := vn) hvI h1 h2 (fun x hx => by
    obtain ⟨i, hi, rfl⟩ := List.mem_map.1 (List.mem_of_mem_eraseIdx hx)
    exact (in_tab hs (List.mem_range.1 hi)).below hbw) (fun g hg => hs.grants.2.1 g (List.mem_filter.1 (show g ∈ s.grants.filter _ from hg)).1) (by omega) (by
      have := hs.grants.1
      omega)
  have h := HF _ w' hin (.inr ⟨hr, .inr (.inr (.inl ⟨k7, hE, fun _ => ⟨j, hj, ?_⟩⟩))⟩)
  · injection e1 with e1 _ e3
    injection e2 with e4 _ e5
    rw [e1, e3, e4, e5]
    exact h
  · rw [tree_out, hvn]
    unfold erL treeS
    simp only
    rw [List.eraseIdx_eq_take_drop_succ, List.eraseIdx_eq_take_drop_succ, List.map_append, List.map_take, List.map_drop, List.map_map]
    rfl
theorem rp_make {w w' : World} {s : Sc} {role : Int} {st : St} {vn : Int} {g cap B : Nat} (HF : ∀ o w', InS w' o → AppT s role st 0 (treeS o) → RpE s role st (.returned (.tuple #[o.val, .int .i64 0])) w') (hs : InS w s) (hr : 0 ≤ role ∧ role ≤ 7) (k6 : st.kind = 6) (hE : ErrC s role st.def_ 0) (hDO : ∀ w1, Below w.heap.size w w1 → InT w1 (st.def_.own role)) (hvn : vnext s.ver = vn) (hvI : I64 vn) (htn : s.tn ≤ 100000) (hbw : Below w.heap.size w w')
    (how : w'.ownsRow B 32 4 (.slice (some ⟨g, 0, none⟩) (s.tn + 1) cap) ((List.range s.tn).map s.tab ++ [st.def_.own role]).length (((List.range s.tn).map s.tab ++ [st.def_.own role]).flatMap Tb.cs)) :
    RpE s role st (.returned (.tuple #[.agg #[.int .i64 vn, .slice (some ⟨g, 0, none⟩) (s.tn + 1) cap, .slice s.gA s.gn s.gcap], .int .i64 0])) w' := by
  have hlen : ((List.range s.tn).map s.tab ++ [st.def_.own role]).length = s.tn + 1 := by simp
  obtain ⟨A, c, e, hin⟩ := in_rowG (vn := vn) (A' := s.gA) (n' := s.gn) (c' := s.gcap) hvI how (hs.grants.below hbw) (fun x hx => by
    rcases List.mem_append.1 hx with hx | hx
    · obtain ⟨j, hj, rfl⟩ := List.mem_map.1 hx
      exact (in_tab hs (List.mem_range.1 hj)).below hbw
    · have : x = st.def_.own role := by simpa using hx
      rw [this]
      exact hDO _ hbw) (by omega) hs.gmax
  have h := HF _ w' hin (.inr ⟨hr, .inr (.inl ⟨k6, hE, fun _ => ?_⟩)⟩)
  · injection e with e1 e2 e3
    rw [e1, e3]
    unfold Sc.val at h
    simp only at h
    rw [hlen] at h
    exact h
  · unfold treeS
    simp only
    rw [tree_rowT, List.map_append, List.map_map, hvn]
    rfl

end Go.Proofs.YtnhalfdddcjicaaGreat
