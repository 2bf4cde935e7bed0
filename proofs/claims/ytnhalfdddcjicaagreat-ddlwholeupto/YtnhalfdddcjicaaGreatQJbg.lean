/- What a statement leaves is whole where what it began with was. -/
/- Arguments opened: grants, rows of grants, the capacity of a schema's grants. -/
/- Statements as arguments. -/
/- The capacity of a schema's tables. -/
/- The walk of the law DdlWhole. -/
/- What the bound of the second form gives: how many letters a slice of strings holds. -/
import Derived.Test.YtnhalfdddcjicaaGreatQJbf
import Derived.Test.YtnhalfdddcjicaaGreatQJas
import Derived.Test.YtnhalfdddcjicaaGreatQJae
import Derived.Test.YtnhalfdddcjicaaGreatQJaz
import Derived.Test.YtnhalfdddcjicaaGreatRows
namespace Go.Proofs.YtnhalfdddcjicaaGreat
open Go.RowKit

theorem set_mem {gs : List Gr} {i : Nat} {b : Int} (hi : i < gs.length) {x : Gr} (hx : x ∈ gs.set i ⟨(atG gs i).role, (atG gs i).table, b⟩) : ∃ g ∈ gs, g.table = x.table := by
  rcases List.mem_or_eq_of_mem_set hx with h | rfl
  · exact ⟨x, h, rfl⟩
  · exact ⟨atG gs i, getD_in2 hi, rfl⟩
theorem give_tab {put : Bool} {gs gs' : List Gr} {g : Gr} {er : Int} (h : GiveR put gs g er gs') : ∀ x ∈ gs', (∃ y ∈ gs, y.table = x.table) ∨ x.table = g.table := by
  unfold GiveR at h
  cases put with
  | true =>
    rcases h with ⟨_, _, rfl⟩ | ⟨_, i, b, hp, ⟨_, _, _, rfl⟩ | ⟨_, _, _, rfl⟩ | ⟨rfl, _, rfl⟩⟩
    · exact fun x hx => by simp at hx
    · exact fun x hx => by simp at hx
    · intro x hx
      rcases List.mem_append.1 hx with hx | hx
      · exact .inl ⟨x, List.mem_of_mem_take hx, rfl⟩
      · rcases List.mem_cons.1 hx with rfl | hx
        · exact .inr rfl
        · exact .inl ⟨x, List.mem_of_mem_drop hx, rfl⟩
    · exact fun x hx => .inl (set_mem (hp.yes rfl).1 hx)
  | false =>
    rcases h with ⟨_, _, rfl⟩ | ⟨_, _, i, b, hp, ⟨_, rfl⟩ | ⟨rfl, _, rfl⟩ | ⟨_, _, rfl⟩⟩
    · exact fun x hx => by simp at hx
    · exact fun x hx => .inl ⟨x, hx, rfl⟩
    · exact fun x hx => .inl (set_mem (hp.yes rfl).1 hx)
    · intro x hx
      rcases List.mem_append.1 hx with hx | hx
      · exact .inl ⟨x, List.mem_of_mem_take hx, rfl⟩
      · exact .inl ⟨x, List.mem_of_mem_drop hx, rfl⟩
theorem give_sorted {put : Bool} {gs gs' : List Gr} {g : Gr} (hs : SortedG gs) (h : GiveR put gs g 0 gs') : SortedG gs' := by
  unfold GiveR at h
  cases put with
  | true => exact (put_spec hs h).1
  | false => exact (take_spec hs h).1
theorem wo_sorted {gs : List Gr} (x : List UInt8) (hs : SortedG gs) : SortedG (woG x gs) := by
  rw [sorted_pw] at hs ⊢
  exact ⟨Nat.le_trans (wo_len x gs) hs.1, fun g hg => hs.2.1 g (List.mem_filter.1 (show g ∈ gs.filter _ from hg)).1, hs.2.2.filter _⟩
theorem wo_mem {gs : List Gr} {x : List UInt8} {g : Gr} (h : g ∈ woG x gs) : g ∈ gs ∧ g.table ≠ x := by
  obtain ⟨h1, h2⟩ := List.mem_filter.1 (show g ∈ gs.filter _ from h)
  exact ⟨h1, by simpa using h2⟩
theorem getD_all {gs : List Gr} {n : Nat} (hn : gs.length = n) {p : Gr → Prop} : (∀ i, i < n → p (gs.getD i default)) ↔ ∀ g ∈ gs, p g := by
  subst hn
  constructor
  · intro h g hg
    obtain ⟨i, hi, rfl⟩ := List.getElem_of_mem hg
    have := h i hi
    rw [List.getD_eq_getElem?_getD, List.getElem?_eq_getElem hi] at this
    exact this
  · exact fun h i hi => h _ (getD_in2 hi)
abbrev tabL (s : Sc) : List Tb := (List.range s.tn).map s.tab
theorem in_tabL {w : World} {s : Sc} (hs : InS w s) : ∀ x ∈ tabL s, InT w x := fun x hx => by
  obtain ⟨j, hj, rfl⟩ := List.mem_map.1 hx
  exact in_tab hs (List.mem_range.1 hj)
theorem whole_is {w : World} {s : Sc} (hs : InS w s) : WholeS s ↔ 0 ≤ s.ver ∧ (tabL s).length ≤ 12 ∧ SortedG s.grants ∧ WholeL (tabL s) ∧ ∀ g ∈ s.grants, findD ((tabL s).map treeT) g.table ≠ none := by
  unfold WholeS
  rw [wholeL_is hs, getD_all hs.grants.1]
  have h : ∀ g : Gr, WhG s g ↔ findD ((tabL s).map treeT) g.table ≠ none := fun g => by
    unfold WhG
    rw [Ne, tab_none, treeS_list]
  simp only [h]
  simp
theorem whole_tree {w w' : World} {o : Sc} {v : Int} {L : List Tb} {gs : List Gr} (ho : InS w' o) (hin : ∀ x ∈ L, InT w x) (e : treeS o = ⟨v, L.map treeT, gs⟩) (hv : 0 ≤ v) (hl : L.length ≤ 12) (hsg : SortedG gs) (hL : WholeL L) (hg : ∀ g ∈ gs, findD (L.map treeT) g.table ≠ none) : WholeS o := by
  have e1 : o.ver = v := congrArg Sd.ver e
  have e2 : (tabL o).map treeT = L.map treeT := by rw [← treeS_list, e]
  have e3 : o.grants = gs := congrArg Sd.grants e
  rw [whole_is ho, e1, e2, e3]
  refine ⟨hv, ?_, hsg, hL.like hin (in_tabL ho) e2.symm, hg⟩
  have := congrArg List.length e2
  simp only [List.length_map] at this hl ⊢
  omega
theorem find_more {A B : List Td} {x : List UInt8} (h : findD A x ≠ none) : findD (A ++ B) x ≠ none := fun e => h (by
  rw [find_none] at e ⊢
  exact fun t ht => e t (List.mem_append.2 (.inl ht)))
theorem next_ver {v : Int} (h0 : 0 ≤ v) (h : v < 4611686018427387904) : vnext v = v + 1 := by unfold vnext; rw [IntKind.wrap_i64]; omega
theorem whole_app {w w' : World} {s o : Sc} {role : Int} {st : St} (hs : InS w s) (hst : InSt w st) (hr : I64 role) (ho : InS w' o) (hW : WholeS s) (hv : s.ver < 4611686018427387904) (hX : AppT s role st 0 (treeS o)) : WholeS o ∧ o.ver = s.ver + 1 := by
  obtain ⟨w0, w1, w2, w3, w4⟩ := (whole_is hs).1 hW
  have hn := next_ver w0 hv
  have hin := in_tabL hs
  rcases hX with ⟨-, h⟩ | ⟨-, ⟨-, h⟩ | ⟨-, hE, hX⟩ | ⟨-, hE, hX⟩ | ⟨put, -, ⟨h, -⟩ | ⟨hO, gs', hg, hX⟩⟩⟩
  · exact absurd h (by decide)
  · exact absurd h (by decide)
  · have e := hX rfl
    refine ⟨?_, by rw [← hn]; exact congrArg Sd.ver e⟩
    rcases hE with ⟨-, h⟩ | ⟨hT, ⟨h1, h2⟩ | ⟨hG, ⟨-, h⟩ | ⟨-, ⟨-, h⟩ | ⟨h12, -⟩⟩⟩⟩
    · exact absurd h (by decide)
    · exact absurd h2.symm h1
    · exact absurd h (by decide)
    · exact absurd h (by decide)
    · rw [treeS_list, show [treeT (st.def_.own role)] = List.map treeT [st.def_.own role] from rfl, ← List.map_append] at e
      rw [tab_none, treeS_list] at hT
      rw [good_is, look_is (fun j hj => cols_len hs hj), treeS_list] at hG
      refine whole_tree (w := w) ho (fun x hx => ?_) e (by omega) (by simp; omega) w2 (w3.snoc hT hG) (fun g hg => ?_)
      · rcases List.mem_append.1 hx with hx | hx
        · exact hin x hx
        · obtain rfl : x = st.def_.own role := by simpa using hx
          exact ⟨hr, hst.def_.name, hst.def_.cmax, hst.def_.emax, hst.def_.cols, hst.def_.chk⟩
      · rw [List.map_append]
        exact find_more (w4 g hg)
  · obtain ⟨j, hj, e⟩ := hX rfl
    refine ⟨?_, by rw [← hn]; exact congrArg Sd.ver e⟩
    obtain ⟨hjn, hjx⟩ := firstAt_some hj
    rcases hE with ⟨-, h⟩ | ⟨-, ⟨-, h⟩ | ⟨hnr, -⟩⟩
    · exact absurd rfl h
    · exact absurd h (by decide)
    · rw [treeS_list, show (List.map treeT ((List.range s.tn).map s.tab)).eraseIdx j = List.map treeT (((List.range s.tn).map s.tab).eraseIdx j) by rw [List.eraseIdx_eq_take_drop_succ, List.eraseIdx_eq_take_drop_succ, List.map_append, List.map_take, List.map_drop]] at e
      have es := split_i (L := tabL s) (i := j) (by simpa using hjn)
      have h3 : (tabL s).getD j default = s.tab j := by simp [tabL, hjn]
      rw [h3] at es
      have ee : (tabL s).eraseIdx j = (tabL s).take j ++ (tabL s).drop (j + 1) := List.eraseIdx_eq_take_drop_succ ..
      rw [ee] at e
      obtain ⟨P, hP⟩ : ∃ P, (tabL s).take j = P := ⟨_, rfl⟩
      obtain ⟨Q, hQ⟩ : ∃ Q, (tabL s).drop (j + 1) = Q := ⟨_, rfl⟩
      rw [hP, hQ] at es e
      have hin2 := hin
      rw [es] at w1 w3 hin
      refine whole_tree (w := w) ho (fun x hx => hin x ?_) e (by omega) (by simp at w1 ⊢; omega) (wo_sorted _ w2) (w3.erase hin (fun x hx hne c hc h0 hd => ?_)) (fun g hg => ?_)
      · rcases List.mem_append.1 hx with h' | h'
        · exact List.mem_append.2 (.inl h')
        · exact List.mem_append.2 (.inr (List.mem_cons_of_mem _ h'))
      · rw [hjx] at hne hd
        obtain ⟨i, hi, rfl⟩ := List.mem_map.1 (show x ∈ tabL s by rw [es]; exact hx)
        exact hnr ⟨by rw [← hd]; exact h0, i, List.mem_range.1 hi, hne, c, hc, hd⟩
      · obtain ⟨g1, g2⟩ := wo_mem hg
        have := w4 g g1
        rw [es, List.map_append, List.map_cons, find_skip (show (treeT (s.tab j)).name ≠ g.table from fun e => g2 (by rw [← e]; exact hjx.symm ▸ rfl))] at this
        rw [List.map_append]
        exact this
  · exact absurd rfl h
  · have e := hX rfl
    refine ⟨?_, by rw [← hn]; exact congrArg Sd.ver e⟩
    rw [treeS_list] at e
    refine whole_tree (w := w) ho hin e (by omega) w1 (give_sorted w2 hg) w3 (fun g hgm => ?_)
    rcases give_tab hg g hgm with ⟨y, hy, e1⟩ | e1
    · rw [← e1]; exact w4 y hy
    · rw [e1]
      rcases hO with ⟨-, h⟩ | ⟨h, -⟩
      · exact absurd h (by decide)
      · rw [Ne, tab_none, treeS_list] at h
        exact h
end Go.Proofs.YtnhalfdddcjicaaGreat

namespace Go.Proofs.YtnhalfdddcjicaaGreat
open Go.ChangeShapes Go.WideShapes Go.ChangeAt Go.RowKit
section
variable {H : Type} {enc : TypeId × Value → H} {P : Program} {w : World}
theorem cap_t {t e : TypeId} (ht : P.underlying t = some (.slice e)) {fuel : Nat} {A : Option Addr} {n cap : Nat} {x : DataW H × List MemPlace} (h : DataW.trod enc P w 0 (fun _ => true) true fuel t [.slice A n cap] = some x) : n ≤ cap := by
  rcases Deep.open_slice ht h with ⟨hcs, _⟩ | ⟨a, len, cap', m, k, D, Pl, hcs, _, hl, hm, hmm, _, hx⟩
  · simp at hcs
    omega
  · simp at hcs
    omega
theorem open_grant {t : TypeId} {f0 f1 f2 : Field} (E : IsGr P t f0 f1 f2) {r : Reach} {b0 : Nat} {v : Value} {d : DataW H} {ps : List MemPlace} (hval : Value.okWide P w r b0 t v) (h : DataW.Trod enc P w 0 (fun _ => true) true t v d ps) : ∃ c : Gr, v = c.val ∧ c.Ok := by
  obtain ⟨cs, rfl, hsz⟩ := okWide_struct E.ht hval
  obtain ⟨fuel, hf⟩ := h
  obtain ⟨e, h1, h2, h3⟩ := open_gr E fuel hf
  refine ⟨e, ?_, h2⟩
  obtain ⟨l⟩ := cs
  simp [Value.cells] at h1
  rw [h1]; rfl
theorem open_grants {t te : TypeId} {f0 f1 f2 : Field} (E : IsGr P te f0 f1 f2) (ht : P.underlying t = some (.slice te)) {A : Option Addr} {n cap : Nat} {d : DataW H} {p : List MemPlace} (h : DataW.Trod enc P w 0 (fun _ => true) true t (.slice A n cap) d p) :
    ∃ gs : List Gr, RowG w A n gs ∧ n ≤ maxLen ∧ n ≤ cap := by
  obtain ⟨fuel, hf⟩ := h
  have hcs : (Value.cells (.slice A n cap)).toList = [.slice A n cap] := by simp [Value.cells]
  rw [hcs] at hf
  obtain ⟨A', n', cap', f', q3, hmax', hsum', hok', hrow'⟩ := open_row 3 Gr.cs Gr.Ok wtG ht E.ce fuel (fun _ => rfl) (by omega) (fun q _ _ _ hh => open_gr E q hh) hf
  simp only [List.cons.injEq, and_true, Value.slice.injEq] at q3
  obtain ⟨rfl, rfl, rfl⟩ := q3
  obtain ⟨ls, s1, s2, s3⟩ := list_fn n f' hok'
  refine ⟨ls, ⟨s1, s2, fun hn => ?_⟩, hmax', cap_t ht hf⟩
  obtain ⟨b, off, e1, e2, e3⟩ := hrow' hn
  exact ⟨b, off, e1, e2, fun j hj => by
    rw [show (ls.getD j default) = f' j from s3 j hj]
    exact ⟨e3 j hj 0 _ rfl, e3 j hj 1 _ rfl, e3 j hj 2 _ rfl⟩⟩
theorem sc_cap {t tt tg : TypeId} {f0 f1 f2 : Field} (S : IsSc P t tt tg f0 f1 f2) {c : Sc} {d : DataW H} {ps : List MemPlace} (h : DataW.Trod enc P w 0 (fun _ => true) true t c.val d ps) : c.gn ≤ c.gcap := by
  obtain ⟨fuel, hf⟩ := h
  have hcs : (Value.cells c.val).toList = [.int .i64 c.ver, .slice c.tA c.tn c.tcap, .slice c.gA c.gn c.gcap] := by simp [Value.cells, Sc.val]
  rw [hcs] at hf
  obtain ⟨xs, m, hm, hx, hlen, hl, hf⟩ := DataW.trod_struct S.ht hf
  match xs, hl with
  | [y0, y1, y2], _ =>
    have h2 := hf 2 f2 rfl
    rw [S.o2, S.c2] at h2
    simp only [List.drop_zero, List.drop_succ_cons, List.take_succ_cons, List.take_zero] at h2
    exact cap_t S.u2 h2
end
end Go.Proofs.YtnhalfdddcjicaaGreat

namespace Go.Proofs.YtnhalfdddcjicaaGreat
open Go.RowKit Go.WideShapes

section
variable {H : Type} {enc : TypeId × Value → H} {P : Program} {w : World}
structure IsSt (P : Program) (t tv ts tt : TypeId) (f0 f1 f2 f3 f4 f5 f6 f7 f8 f9 : Field) : Prop where
  ht : P.underlying t = some (.struct #[f0, f1, f2, f3, f4, f5, f6, f7, f8, f9])
  ce : P.cellsOf t = 19
  o0 : f0.offset = 0
  o1 : f1.offset = 1
  o2 : f2.offset = 2
  o3 : f3.offset = 5
  o4 : f4.offset = 8
  o5 : f5.offset = 9
  o6 : f6.offset = 10
  o7 : f7.offset = 13
  o8 : f8.offset = 17
  o9 : f9.offset = 18
  c0 : P.cellsOf f0.type = 1
  c1 : P.cellsOf f1.type = 1
  c2 : P.cellsOf f2.type = 3
  c3 : P.cellsOf f3.type = 3
  c4 : P.cellsOf f4.type = 1
  c5 : P.cellsOf f5.type = 1
  c6 : P.cellsOf f6.type = 3
  c7 : P.cellsOf f7.type = 4
  c8 : P.cellsOf f8.type = 1
  c9 : P.cellsOf f9.type = 1
  u0 : P.underlying f0.type = some (.int .i64)
  u1 : P.underlying f1.type = some .string
  t2 : f2.type = tv
  t3 : f3.type = tv
  u4 : P.underlying f4.type = some (.slice ts)
  u5 : P.underlying f5.type = some .string
  t6 : f6.type = tv
  t7 : f7.type = tt
  u8 : P.underlying f8.type = some (.int .i64)
  u9 : P.underlying f9.type = some (.int .i64)
theorem open_slice1c {t e : TypeId} (ht : P.underlying t = some (.slice e)) {fuel : Nat} {c : Value} {x : DataW H × List MemPlace} (h : DataW.trod enc P w 0 (fun _ => true) true fuel t [c] = some x) : ∃ A n cap, c = .slice A n cap := by
  rcases DataW.trod_slice ht h with ⟨hcs, _⟩ | ⟨a, len, cap, elems, rest, q, hq, hcs, _, _, hl, hmx, hlen, hel, _, _⟩
  · simp only [List.cons.injEq, and_true] at hcs
    exact ⟨_, _, _, hcs⟩
  · simp only [List.cons.injEq, and_true] at hcs
    exact ⟨_, _, _, hcs⟩
theorem open_st {t tv ts tt tc te tx : TypeId} {f0 f1 f2 f3 f4 f5 f6 f7 f8 f9 k0 k1 k2 k3 g0 g1 g2 g3 g4 g5 e0 e1 e2 e3 v0 v1 v2 : Field} (S : IsSt P t tv ts tt f0 f1 f2 f3 f4 f5 f6 f7 f8 f9) (E : IsTb P tt tc te k0 k1 k2 k3) (C : IsCo P tc g0 g1 g2 g3 g4 g5) (X : IsEx P te tx tv e0 e1 e2 e3) (V : IsVal P tv v0 v1 v2)
    (fuel : Nat) {cs : List Value} {x : DataW H × List MemPlace}
    (h : DataW.trod enc P w 0 (fun _ => true) true fuel t cs = some x) : ∃ c : St, cs = c.cells.toList ∧ InSt w c ∧ wtT c.def_ + c.table.length ≤ Rows.uptoBulk x.1 := by
  obtain ⟨xs, m, hm, hx, hlen, hl, hf⟩ := DataW.trod_struct S.ht h
  rw [S.ce] at hlen
  match xs, hl with
  | [y0, y1, y2, y3, y4, y5, y6, y7, y8, y9], _ =>
    match cs, hlen with
    | [d0, d1, d2, d3, d4, d5, d6, d7, d8, d9, d10, d11, d12, d13, d14, d15, d16, d17, d18], _ =>
      have h0 := hf 0 f0 rfl
      have h1 := hf 1 f1 rfl
      have h2 := hf 2 f2 rfl
      have h3 := hf 3 f3 rfl
      have h4 := hf 4 f4 rfl
      have h5 := hf 5 f5 rfl
      have h6 := hf 6 f6 rfl
      have h7 := hf 7 f7 rfl
      have h8 := hf 8 f8 rfl
      have h9 := hf 9 f9 rfl
      rw [S.o0, S.c0] at h0
      rw [S.o1, S.c1] at h1
      rw [S.o2, S.c2, S.t2] at h2
      rw [S.o3, S.c3, S.t3] at h3
      rw [S.o4, S.c4] at h4
      rw [S.o5, S.c5] at h5
      rw [S.o6, S.c6, S.t6] at h6
      rw [S.o7, S.c7, S.t7] at h7
      rw [S.o8, S.c8] at h8
      rw [S.o9, S.c9] at h9
      simp only [List.drop_zero, List.drop_succ_cons, List.take_succ_cons, List.take_zero] at h0 h1 h2 h3 h4 h5 h6 h7 h8 h9
      obtain ⟨z0, rfl, i0⟩ := open_int1 S.u0 h0
      obtain ⟨l1, rfl, m1, b1⟩ := open_str1 S.u1 h1
      obtain ⟨x2, q2, -⟩ := open_cells V h2
      obtain ⟨x3, q3, -⟩ := open_cells V h3
      obtain ⟨A, n, cap, rfl⟩ := open_slice1c S.u4 h4
      obtain ⟨l5, rfl, -, -⟩ := open_str1 S.u5 h5
      obtain ⟨x6, q6, -⟩ := open_cells V h6
      obtain ⟨x7, q7, i7, b7⟩ := open_tb E C X V m h7
      obtain ⟨z8, rfl, i8⟩ := open_int1 S.u8 h8
      obtain ⟨z9, rfl, i9⟩ := open_int1 S.u9 h9
      simp only [List.cons.injEq, and_true] at q2 q3 q6 q7
      unfold Tb.cs at q7
      simp only [List.cons.injEq, and_true] at q7
      obtain ⟨rfl, rfl, rfl⟩ := q2
      obtain ⟨rfl, rfl, rfl⟩ := q3
      obtain ⟨rfl, rfl, rfl⟩ := q6
      obtain ⟨rfl, rfl, rfl, rfl⟩ := q7
      refine ⟨⟨z0, l1, x2, x3, A, n, cap, l5, x6, x7, z8, z9⟩, rfl, ⟨i0, m1, i7, i8, i9⟩, ?_⟩
      rw [hx]
      simp only [List.map_cons, List.map_nil, Rows.uptoBulk, Rows.uptoBulkAll]
      omega
theorem open_stmt {t tv ts tt tc te tx : TypeId} {f0 f1 f2 f3 f4 f5 f6 f7 f8 f9 k0 k1 k2 k3 g0 g1 g2 g3 g4 g5 e0 e1 e2 e3 v0 v1 v2 : Field} (S : IsSt P t tv ts tt f0 f1 f2 f3 f4 f5 f6 f7 f8 f9) (E : IsTb P tt tc te k0 k1 k2 k3) (C : IsCo P tc g0 g1 g2 g3 g4 g5) (X : IsEx P te tx tv e0 e1 e2 e3) (V : IsVal P tv v0 v1 v2)
    {r : Reach} {b0 : Nat} {v : Value} {d : DataW H} {ps : List MemPlace} (hval : Value.okWide P w r b0 t v) (h : DataW.Trod enc P w 0 (fun _ => true) true t v d ps) : ∃ c : St, v = c.val ∧ InSt w c ∧ wtT c.def_ + c.table.length ≤ Rows.uptoBulk d := by
  obtain ⟨cs, rfl, hsz⟩ := okWide_struct S.ht hval
  obtain ⟨fuel, hf⟩ := h
  obtain ⟨e, h1, h2, h3⟩ := open_st S E C X V fuel hf
  refine ⟨e, ?_, h2, h3⟩
  obtain ⟨l⟩ := cs
  simp [Value.cells] at h1
  show Value.agg _ = Value.agg e.cells
  rw [h1]
end
theorem isSt_ex : ∃ f0 f1 f2 f3 f4 f5 f6 f7 f8 f9, IsSt Tryz.prog 34 27 27 32 f0 f1 f2 f3 f4 f5 f6 f7 f8 f9 :=
  ⟨_, _, _, _, _, _, _, _, _, _, Tryz.underlying34, by kernel_rfl, rfl, rfl, rfl, rfl, rfl, rfl, rfl, rfl, rfl, rfl, by kernel_rfl, by kernel_rfl, by kernel_rfl, by kernel_rfl, by kernel_rfl, by kernel_rfl, by kernel_rfl, by kernel_rfl, by kernel_rfl, by kernel_rfl,
    Tryz.underlying3, Tryz.underlying9, rfl, rfl, Tryz.underlying28, Tryz.underlying9, rfl, rfl, Tryz.underlying3, Tryz.underlying3⟩
end Go.Proofs.YtnhalfdddcjicaaGreat

namespace Go.Proofs.YtnhalfdddcjicaaGreat
open Go.ChangeShapes Go.WideShapes Go.ChangeAt Go.RowKit
section
variable {H : Type} {enc : TypeId × Value → H} {P : Program} {w : World}
theorem sc_capT {t tt tg : TypeId} {f0 f1 f2 : Field} (S : IsSc P t tt tg f0 f1 f2) {c : Sc} {d : DataW H} {ps : List MemPlace} (h : DataW.Trod enc P w 0 (fun _ => true) true t c.val d ps) : c.tn ≤ c.tcap := by
  obtain ⟨fuel, hf⟩ := h
  have hcs : (Value.cells c.val).toList = [.int .i64 c.ver, .slice c.tA c.tn c.tcap, .slice c.gA c.gn c.gcap] := by simp [Value.cells, Sc.val]
  rw [hcs] at hf
  obtain ⟨xs, m, hm, hx, hlen, hl, hf⟩ := DataW.trod_struct S.ht hf
  match xs, hl with
  | [y0, y1, y2], _ =>
    have h1 := hf 1 f1 rfl
    rw [S.o1, S.c1] at h1
    simp only [List.drop_zero, List.drop_succ_cons, List.take_succ_cons, List.take_zero] at h1
    exact cap_t S.u1 h1
end
end Go.Proofs.YtnhalfdddcjicaaGreat

namespace Go.Proofs.YtnhalfdddcjicaaGreat
open Go.RowKit

theorem wt_treeL {w w' : World} : ∀ {L L' : List Tb}, (∀ x ∈ L, InT w x) → (∀ x ∈ L', InT w' x) → L.map treeT = L'.map treeT → wtL L = wtL L'
  | [], [], _, _, _ => rfl
  | [], _ :: _, _, _, e => by simp at e
  | _ :: _, [], _, _, e => by simp at e
  | x :: L, y :: L', h, h', e => by
    rw [List.map_cons, List.map_cons] at e
    injection e with e1 e2
    have h1 := wt_simT (simT_tree (h x (by simp)) (h' y (by simp)) e1)
    have h2 := wt_treeL (fun z hz => h z (List.mem_cons_of_mem _ hz)) (fun z hz => h' z (List.mem_cons_of_mem _ hz)) e2
    unfold wtL at h2 ⊢
    simp only [List.map_cons, List.sum_cons]
    omega
theorem app_wt {w w' : World} {s o : Sc} {role : Int} {st : St} (hs : InS w s) (hst : InSt w st) (hr : I64 role) (ho : InS w' o) (h : AppT s role st 0 (treeS o)) : wtS o ≤ wtS s + wtT st.def_ + st.table.length := by
  obtain ⟨L, gs, e, h1, h2, h3, h4, h5⟩ := app_lists hs hst hr h
  have e2 : (tabL o).map treeT = L.map treeT := by rw [← treeS_list, e]
  have e3 : o.grants = gs := congrArg Sd.grants e
  have h6 := wt_two ho
  rw [e3] at h6
  have h7 : wtL ((List.range o.tn).map o.tab) = wtL L := wt_treeL (in_tabL ho) h1 e2
  omega
theorem app_ok {s o : Sc} {role : Int} {st : St} (h : AppF s role st 0 o) : AppT s role st 0 (treeS o) := by
  obtain ⟨e0, X, h1, ⟨a, b, c⟩ | ⟨a, b, c, d⟩ | ⟨a, b, c, d⟩⟩ := h
  · exact absurd b.symm a
  · exact absurd c (by decide)
  · subst a; rw [d]; exact h1
theorem whole_yes {s : Sc} {B : Bool} (h : B = true ↔ WholeS s) (hw : WholeS s) : B = true := h.2 hw

set_option maxRecDepth 100000 in
set_option maxHeartbeats 12800000 in
theorem ddlWhole_main (s : Sc) (role : Int) (st : St) (w : World) (hs : InS w s) (hw : wtS s ≤ 1048576) (hcap : s.gn ≤ s.gcap) (htcap : s.tn ≤ s.tcap) (hrole : I64 role) (hst : InSt w st) (hsum : wtS s + wtT st.def_ + st.table.length ≤ 1048576) :
    Calls Tryz.prog 4 #[s.val, .int .i64 role, st.val] w fun e w' => e = .returned (.bool true) ∧ Below w.heap.size w w' := by
  have b1 := below_box w (.cells #[.int .i64 s.ver, .slice s.tA s.tn s.tcap, .slice s.gA s.gn s.gcap] 25)
  have aS := At.fresh w 25 #[.int .i64 s.ver, .slice s.tA s.tn s.tcap, .slice s.gA s.gn s.gcap]
  have b2 := below_box (w.alloc (.cells #[.int .i64 s.ver, .slice s.tA s.tn s.tcap, .slice s.gA s.gn s.gcap] 25)) (.cells st.cells 34)
  have aT := At.fresh (w.alloc (.cells #[.int .i64 s.ver, .slice s.tA s.tn s.tcap, .slice s.gA s.gn s.gcap] 25)) 34 st.cells
  have aS2 := aS.below b2 aS.lt
  have bb := below_in b1 b2
  obtain ⟨W, hW⟩ : ∃ W, (w.alloc (.cells #[.int .i64 s.ver, .slice s.tA s.tn s.tcap, .slice s.gA s.gn s.gcap] 25)).alloc (.cells st.cells 34) = W := ⟨_, rfl⟩
  rw [hW] at aT aS2 bb
  simp only [World.size_alloc] at aT
  have HW := Lib.hid hW
  clear hW b1 b2 aS
  have hw3 : 3 ≤ wtS s := by unfold wtS; omega
  have hG := fun w1 (b : Below w.heap.size w w1) => dgreat_any s st w1 (hs.below b) (hst.below b) hw
  have hR := fun w1 (b : Below w.heap.size w w1) => rwhole_any s w1 (hs.below b) (by omega) hcap htcap
  have hP := fun w1 (b : Below w.heap.size w w1) => dwhole_any s w1 (hs.below b) (by omega) hcap htcap
  have hDa := fun w1 (b : Below w.heap.size w w1) (hg : s.gn ≤ 1000) (hn : s.tn ≤ 1000) => dapplyC_any s role st w1 (hs.below b) (hst.below b) hrole hw (by omega) (by omega) hg hn
  have HPr : Hid (∀ o w', InS w' o → WholeS s → s.ver < 4611686018427387904 → AppF s role st 0 o → WholeS o ∧ o.ver = s.ver + 1 ∧ wtS o ≤ 1048579) := by
    show ∀ _, _
    intro o w' ho h1 h2 h3
    have := app_ok h3
    obtain ⟨k1, k2⟩ := whole_app hs hst hrole ho h1 h2 this
    have := app_wt hs hst hrole ho this
    exact ⟨k1, k2, by omega⟩
  have hsv := hs.ver
  have HV : Hid (st.val = .agg st.cells) := rfl
  clear hs hst hw hw3 hsum hcap htcap hrole
  unfold Sc.val at hG hR hP hDa ⊢
  rw [HV.out] at hG hDa ⊢
  go_enter Tryz.func4, Tryz.ntmps4
  go_wp2_with fail
  rw [HW.out]
  clear HW
  refine (dalive_any _).mono ?_
  rintro e w1 ⟨rfl, k1⟩
  have bb1 := below_in bb k1
  have aS1 := aS2.below k1 aS2.lt
  have aT1 := aT.below k1 aT.lt
  clear aS2 aT bb k1
  obtain ⟨s0, s1, s2⟩ := aS1.tri0
  go_wp2_with (refine wpList_load_st rfl (.tmp 5) rfl (w.heap.size + 1) st rfl aT1 ?_)
  refine (hG _ bb1).mono ?_
  rintro e w2 ⟨⟨B, rfl, hB⟩, k2⟩
  have bb2 := below_in bb1 k2
  have aS2 := aS1.below k2 aS1.lt
  have aT2 := aT1.below k2 aT1.lt
  clear aS1 aT1 bb1 k2 s0 s1 s2 hG
  obtain ⟨s0, s1, s2⟩ := aS2.tri0
  cases B with
  | true =>
    go_wp2_with fail
    go_ret
    exact ⟨rfl, bb2⟩
  | false =>
    have hn := hB rfl
    have HN : Hid (s.tn ≤ 1000 ∧ s.gn ≤ 1000) := show _ ∧ _ from ⟨by omega, by omega⟩
    clear hB hn
    go_wp2_with fail
    refine (hR _ bb2).mono ?_
    rintro e w3 ⟨⟨B1, rfl, hB1⟩, k3⟩
    have bb3 := below_in bb2 k3
    have aS3 := aS2.below k3 aS2.lt
    have aT3 := aT2.below k3 aT2.lt
    clear aS2 aT2 bb2 k3 s0 s1 s2 hR
    obtain ⟨s0, s1, s2⟩ := aS3.tri0
    have HB1 := Lib.hid hB1
    clear hB1
    go_wp2_with fail
    refine (hP _ bb3).mono ?_
    rintro e w4 ⟨⟨B2, rfl, hB2⟩, k4⟩
    obtain rfl : B2 = B1 := Bool.eq_iff_iff.2 (hB2.trans HB1.out.symm)
    have bb4 := below_in bb3 k4
    have aS4 := aS3.below k4 aS3.lt
    have aT4 := aT3.below k4 aT3.lt
    clear aS3 aT3 bb3 k4 s0 s1 s2 hP hB2
    obtain ⟨s0, s1, s2⟩ := aS4.tri0
    have hDb := hDa _ bb4 HN.out.2 HN.out.1
    clear hDa HN
    cases B2 with
    | false =>
      go_wp2_with (refine wpList_load_st rfl (.tmp 5) rfl (w.heap.size + 1) st rfl aT4 ?_)
      refine hDb.mono ?_
      rintro e w5 ⟨⟨o, er, rfl, -⟩, k5⟩
      have bb5 := below_in bb4 k5
      have k6 := below_box w5 (.cells #[.int .i64 o.ver, .slice o.tA o.tn o.tcap, .slice o.gA o.gn o.gcap] 25)
      have bb6 := below_in bb5 k6
      unfold Sc.val
      clear k6 HB1 HPr aT4
      go_wp2_with fail
      go_ret
      exact ⟨rfl, bb6⟩
    | true =>
      have HWs : Hid (WholeS s) := Lib.hid (HB1.out.1 rfl)
      clear HB1
      go_wp2_with (refine wpList_load_st rfl (.tmp 5) rfl (w.heap.size + 1) st rfl aT4 ?_)
      refine hDb.mono ?_
      rintro e w5 ⟨⟨o, er, rfl, ho, hc, hF⟩, k5⟩
      have bb5 := below_in bb4 k5
      have aS5 := aS4.below k5 aS4.lt
      have k6 := below_box w5 (.cells #[.int .i64 o.ver, .slice o.tA o.tn o.tcap, .slice o.gA o.gn o.gcap] 25)
      have aO := At.fresh w5 25 #[.int .i64 o.ver, .slice o.tA o.tn o.tcap, .slice o.gA o.gn o.gcap]
      have bb6 := below_in bb5 k6
      have aS6 := aS5.below k6 aS5.lt
      have ho6 := ho.below k6
      clear s0 s1 s2 hDb aT4 aS4 k6 k5 ho
      obtain ⟨s0, s1, s2⟩ := aS6.tri0
      unfold Sc.val
      by_cases he : er = 0
      · subst he
        by_cases hv : 4611686018427387904 ≤ s.ver
        · clear HPr hF
          go_wp2_with fail
          go_ret
          exact ⟨rfl, bb6⟩
        · obtain ⟨hwo, hvo, hto⟩ := HPr.out o _ ho6 HWs.out (by omega) (hF HWs.out.2.2.1)
          have hvw : IntKind.i64.wrap (s.ver + 1) = s.ver + 1 := by rw [IntKind.wrap_i64]; unfold I64 at hsv; have := HWs.out.1; omega
          have hR2 := fun w' (b : Below (w5.alloc (.cells #[.int .i64 o.ver, .slice o.tA o.tn o.tcap, .slice o.gA o.gn o.gcap] 25)).heap.size (w5.alloc (.cells #[.int .i64 o.ver, .slice o.tA o.tn o.tcap, .slice o.gA o.gn o.gcap] 25)) w') => rwhole_any o w' (ho6.below b) hto hc.2 hc.1
          have hP2 := fun w' (b : Below (w5.alloc (.cells #[.int .i64 o.ver, .slice o.tA o.tn o.tcap, .slice o.gA o.gn o.gcap] 25)).heap.size (w5.alloc (.cells #[.int .i64 o.ver, .slice o.tA o.tn o.tcap, .slice o.gA o.gn o.gcap] 25)) w') => dwhole_any o w' (ho6.below b) hto hc.2 hc.1
          have HWo := Lib.hid hwo
          unfold Sc.val at hR2 hP2
          have hc' := hc
          clear HPr hF hwo hto hc hsv
          have HVO := Lib.hid hvo
          clear hvo
          go_wp2_with fail
          refine (hR2 _ (Below.refl _ _)).mono ?_
          rintro e w7 ⟨⟨B3, rfl, hB3⟩, k7⟩
          obtain rfl : B3 = true := whole_yes hB3 HWo.out
          have bb7 := below_in bb6 k7
          have aS7 := aS6.below k7 aS6.lt
          have aO7 := aO.below k7 aO.lt
          clear s0 s1 s2 hB3 hR2
          obtain ⟨o0, o1, o2⟩ := aO7.tri0
          go_wp2_with fail
          refine (hP2 _ k7).mono ?_
          rintro e w8 ⟨⟨B4, rfl, hB4⟩, k8⟩
          obtain rfl : B4 = true := whole_yes hB4 HWo.out
          have bb8 := below_in bb7 k8
          have aS8 := aS7.below k8 aS7.lt
          have aO8 := aO7.below k8 aO7.lt
          clear o0 o1 o2 hB4 hP2
          obtain ⟨o0, o1, o2⟩ := aO8.tri0
          obtain ⟨s0, s1, s2⟩ := aS8.tri0
          go_wp2_with fail
          go_ret
          exact ⟨by rw [HVO.out]; simp, bb8⟩
      · have her : (er != 0) = true := by simpa using he
        clear HPr hF
        go_wp2_with fail
        go_ret
        exact ⟨rfl, bb6⟩
end Go.Proofs.YtnhalfdddcjicaaGreat

namespace Go.Proofs.YtnhalfdddcjicaaGreat.bulks

theorem bound {H : Type} {l : List (DataW H)} (hk : Rows.uptoSmall H l = true) : Rows.uptoBulkAll l ≤ 1048576 := of_decide_eq_true hk

theorem letters {H : Type} : ∀ ss : List (List UInt8), ss.flatten.length + ss.length ≤ Rows.uptoBulkAll (ss.map fun s => DataW.lit (H := H) (.string s))
  | [] => by simp
  | s :: r => by
    have := letters (H := H) r
    simp only [List.map_cons, Rows.uptoBulkAll, Rows.uptoBulk, List.flatten_cons, List.length_append, List.length_cons]
    omega

theorem strs_le {H : Type} {d : DataW H} {ss : List (List UInt8)} (hB : Rows.uptoBulk d ≤ 1048576) (u : d = .nil ∧ ss = [] ∨ ∃ sp, d = .slice (ss.map fun s => .lit (.string s)) sp) : ss.flatten.length ≤ 1048576 := by
  rcases u with ⟨_, rfl⟩ | ⟨sp, rfl⟩
  · simp
  · have h1 := letters (H := H) ss
    simp only [Rows.uptoBulk] at hB
    omega
theorem str_le {H : Type} {l : List UInt8} (hB : Rows.uptoBulk (DataW.lit (H := H) (.string l)) ≤ 1048576) : l.length ≤ 1048576 := by
  simp only [Rows.uptoBulk] at hB
  omega
end Go.Proofs.YtnhalfdddcjicaaGreat.bulks
