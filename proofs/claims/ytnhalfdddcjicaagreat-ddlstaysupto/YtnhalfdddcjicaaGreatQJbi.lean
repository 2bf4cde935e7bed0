/- What is made and taken back: the table, the grant. -/
/- What a statement doesn't name stays. -/
/- Arguments opened: grants, rows of grants, the capacity of a schema's grants. -/
/- Statements as arguments. -/
/- The capacity of a schema's tables. -/
import Derived.Test.YtnhalfdddcjicaaGreatQJbg
import Derived.Test.YtnhalfdddcjicaaGreatQJas
import Derived.Test.YtnhalfdddcjicaaGreatQJae
import Derived.Test.YtnhalfdddcjicaaGreatQJaz
namespace Go.Proofs.YtnhalfdddcjicaaGreat
open Go.RowKit

theorem app_all {s o : Sc} {role : Int} {st : St} (h : AppF s role st 0 o) : AppT s role st 0 (treeS o) ∧ (encSd (treeS o)).length ≤ 8192 := by
  obtain ⟨e0, X, h1, ⟨a, b, c⟩ | ⟨a, b, c, d⟩ | ⟨a, b, c, d⟩⟩ := h
  · exact absurd b.symm a
  · exact absurd c (by decide)
  · subst a; rw [d]; exact ⟨h1, b⟩
theorem grants_named {w : World} {s : Sc} {x : List UInt8} (hs : InS w s) (hW : WholeS s) (hn : findD (treeS s).tabs x = none) : ∀ g ∈ s.grants, g.table ≠ x := by
  intro g hg e
  have h := ((whole_is hs).1 hW).2.2.2.2 g hg
  rw [← treeS_list, e] at h
  exact h hn
theorem made_x {w w' : World} {s x : Sc} {t : Tb} (hs : InS w s) (ht : InT w t) (hW : WholeS s) (hv : s.ver ≤ 1152921504606846976) (hx : InS w' x) (h : AppF s 0 (stAt 6 [] t 0 0) 0 x) :
    Made w' s t x ∧ findD (treeS s).tabs t.name = none ∧ x.grants = s.grants ∧ x.ver ≤ 1152921504606846977 := by
  obtain ⟨hA, hl⟩ := app_all h
  have hst : InSt w (stAt 6 [] t 0 0) := in_stAt 6 [] 0 0 (by unfold I64; decide) (by show 0 ≤ maxLen; unfold maxLen; decide) ht (by unfold I64; decide) (by unfold I64; decide)
  obtain ⟨hWx, hvx⟩ := whole_app hs hst (by unfold I64; decide) hx hW (by omega) hA
  have hv0 := hW.1
  rcases hA with ⟨-, h⟩ | ⟨-, ⟨-, h⟩ | ⟨-, hE, hX⟩ | ⟨h, -⟩ | ⟨put, h, -⟩⟩
  · exact absurd h (by decide)
  · exact absurd h (by decide)
  · have e := hX rfl
    have hT : tabAt s t.name = none := by
      rcases hE with ⟨-, h⟩ | ⟨hT, -⟩
      · exact absurd h (by decide)
      · exact hT
    rw [tab_none] at hT
    have hg : x.grants = s.grants := congrArg Sd.grants e
    refine ⟨⟨hx, by rw [e]; rfl, ?_, hWx, ⟨by omega, by omega⟩, hl⟩, hT, hg, by omega⟩
    rw [hg]
    exact wo_all (grants_named hs hW hT)
  · exact absurd (show (6 : Int) = 7 from h) (by decide)
  · cases put
    · exact absurd (show (6 : Int) = 9 from h) (by decide)
    · exact absurd (show (6 : Int) = 8 from h) (by decide)
section
variable {w w' w2 : World} {s x y : Sc} {t : Tb} {r b : Int}
theorem made_y (hs : InS w s) (hW : WholeS s) (hn : findD (treeS s).tabs t.name = none) (ht : t.name.length ≤ maxLen) (hr : I64 r) (hb : I64 b) (h : Made w' s t x) (hg : x.grants = s.grants) (hv : x.ver ≤ 1152921504606846977) (hy : InS w2 y) (hA : AppF x 0 (stAt 8 t.name default r b) 0 y) :
    Made w2 s t y ∧ PutR x.grants ⟨r, t.name, b⟩ 0 y.grants ∧ (treeS y).tabs = (treeS x).tabs := by
  obtain ⟨hA, hl⟩ := app_all hA
  have hst : InSt w' (stAt 8 t.name default r b) := in_stAt 8 _ r b (by unfold I64; decide) ht (in_dflt w') hr hb
  obtain ⟨hWy, hvy⟩ := whole_app h.hin hst (by unfold I64; decide) hy h.whole (by omega) hA
  have hv0 := h.ver.1
  rcases hA with ⟨-, h'⟩ | ⟨-, ⟨-, h'⟩ | ⟨h', -⟩ | ⟨h', -⟩ | ⟨put, hk, ⟨h', -⟩ | ⟨-, gs', hG, hX⟩⟩⟩
  · exact absurd h' (by decide)
  · exact absurd h' (by decide)
  · exact absurd (show (8 : Int) = 6 from h') (by decide)
  · exact absurd (show (8 : Int) = 7 from h') (by decide)
  · exact absurd rfl h'
  · cases put
    · exact absurd (show (8 : Int) = 9 from hk) (by decide)
    · have e := hX rfl
      have e1 : y.grants = gs' := congrArg Sd.grants e
      subst e1
      have hP : PutR x.grants ⟨r, t.name, b⟩ 0 y.grants := hG
      have htabs : (treeS y).tabs = (treeS x).tabs := by rw [e]
      refine ⟨⟨hy, by rw [htabs, h.tabs], ?_, hWy, ⟨by omega, by omega⟩, hl⟩, hP, htabs⟩
      have := put_wo h.whole.2.2.1 hP (by rw [hg]; exact grants_named hs hW hn)
      rw [← hg]
      exact this
theorem put_more {gs gs' : List Gr} {g : Gr} (h : PutR gs g 0 gs') (hn : ∀ x ∈ gs, x.table ≠ g.table) : gs.length ≤ gs'.length ∧ (gs.map encG).flatten.length + 1 ≤ (gs'.map encG).flatten.length ∧ goodG g = true := by
  rcases h with ⟨_, h, _⟩ | ⟨hg, i, b, hp, ⟨_, _, h, _⟩ | ⟨_, _, _, rfl⟩ | ⟨rfl, _, _⟩⟩
  · exact absurd h (by decide)
  · exact absurd h (by decide)
  · refine ⟨by simp; omega, ?_, hg⟩
    have e : ((gs.take i ++ gs.drop i).map encG).flatten.length = (gs.map encG).flatten.length := by rw [List.take_append_drop]
    have k : 1 ≤ (encG g).length := by
      unfold encG
      simp only [List.length_append]
      have := enc_one g.role
      omega
    simp only [List.map_append, List.map_cons, List.flatten_append, List.flatten_cons, List.length_append] at e ⊢
    omega
  · obtain ⟨h1, -, h3⟩ := hp.yes rfl
    exact absurd h3 (hn _ (getD_in2 h1))
theorem back_z (hs : InS w s) (hW : WholeS s) (hn : findD (treeS s).tabs t.name = none) (hg : x.grants = s.grants) (hsx : SortedG x.grants) (h : Made w2 s t y) (hP : PutR x.grants ⟨r, t.name, b⟩ 0 y.grants) {e : Int} {z : Sc} (hA : AppF y 0 (stAt 9 t.name default r b) e z) :
    e = 0 ∧ (treeS z).tabs = (treeS y).tabs ∧ z.grants = x.grants := by
  have hv := next_ver h.ver.1 (by have := h.ver.2; omega)
  have hO : ErrO y 0 t.name 0 := .inr ⟨by rw [h.tab hn]; exact fun e => (by cases e), .inr ⟨h.owns hn, rfl⟩⟩
  have hne : ∀ g ∈ x.grants, g.table ≠ t.name := by rw [hg]; exact grants_named hs hW hn
  obtain ⟨p1, p2, p3⟩ := put_more hP hne
  obtain ⟨e0, X, h1, h2⟩ := hA
  have key : e0 = 0 ∧ X = ⟨vnext y.ver, (treeS y).tabs, x.grants⟩ := by
    rcases h1 with ⟨h', -⟩ | ⟨-, ⟨h', -⟩ | ⟨h', -⟩ | ⟨h', -⟩ | ⟨put, hk, ⟨h', hE⟩ | ⟨-, gs', hG, hX⟩⟩⟩
    · exact absurd ⟨by decide, by decide⟩ h'
    · exact absurd h' (by show ¬ isD 9 = false; decide)
    · exact absurd (show (9 : Int) = 6 from h') (by decide)
    · exact absurd (show (9 : Int) = 7 from h') (by decide)
    · exact absurd (hE.one hO) h'
    · cases put
      · have hT : TakeR y.grants ⟨r, t.name, b⟩ e0 gs' := hG
        have he : e0 = 0 := by
          rcases hT with ⟨h', -⟩ | ⟨-, h', -⟩
          · rw [p3] at h'; cases h'
          · exact h'
        subst he
        refine ⟨rfl, ?_⟩
        have := put_take hsx hP hne hT
        subst this
        exact hX rfl
      · exact absurd (show (9 : Int) = 8 from hk) (by decide)
  obtain ⟨rfl, rfl⟩ := key
  have hl : (encSd ⟨vnext y.ver, (treeS y).tabs, x.grants⟩).length ≤ 8192 := by
    have h1 := h.len
    have e : treeS y = ⟨y.ver, (treeS y).tabs, y.grants⟩ := rfl
    rw [e] at h1
    unfold encSd at h1 ⊢
    simp only [List.length_append] at h1 ⊢
    have k1 := enc_next h.ver.1
    have k5 := enc_mono (a := (x.grants.length : Int)) (b := (y.grants.length : Int)) (by omega) (by omega)
    rw [hv]
    omega
  rcases h2 with ⟨a, -⟩ | ⟨-, a, -⟩ | ⟨-, -, rfl, a⟩
  · exact absurd rfl a
  · omega
  · exact ⟨rfl, by rw [a], by have := congrArg Sd.grants a; exact this⟩
end
end Go.Proofs.YtnhalfdddcjicaaGreat

namespace Go.Proofs.YtnhalfdddcjicaaGreat
open Go.RowKit

/-- Where each table that stays is found, and what grants stay. -/
structure Stay (s o : Sc) (k : Int) (x : List UInt8) (pos : Nat → Nat) : Prop where
  start : pos 0 = 0
  skip : ∀ i, i < s.tn → (s.tab i).name = x → k = 7 → pos (i + 1) = pos i
  keep : ∀ i, i < s.tn → ¬ ((s.tab i).name = x ∧ k = 7) → pos (i + 1) = pos i + 1 ∧ pos i < o.tn ∧ treeT (o.tab (pos i)) = treeT (s.tab i)
  stop : pos s.tn = o.tn ∨ (k = 6 ∧ pos s.tn + 1 = o.tn)
  bits : ∀ r t, t ≠ x → bitsG r t s.grants = bitsG r t o.grants
def nameOf (st : St) : List UInt8 := if st.kind = 6 then st.def_.name else st.table
theorem tn_len (s : Sc) : (treeS s).tabs.length = s.tn := by unfold treeS; simp
theorem tree_get {s : Sc} {i : Nat} {t : Td} (h : (treeS s).tabs[i]? = some t) : i < s.tn ∧ treeT (s.tab i) = t := by
  rw [tree_at] at h
  by_cases hi : i < s.tn
  · rw [if_pos hi] at h; exact ⟨hi, Option.some.inj h⟩
  · rw [if_neg hi] at h; cases h
theorem stay_same {s o : Sc} {k : Int} {x : List UInt8} (hk : k ≠ 7) (ht : (treeS o).tabs = (treeS s).tabs) (hb : ∀ r t, t ≠ x → bitsG r t s.grants = bitsG r t o.grants) : Stay s o k x id := by
  have hn : o.tn = s.tn := by rw [← tn_len, ← tn_len, ht]
  refine ⟨rfl, fun i _ _ h => absurd h hk, fun i hi _ => ⟨rfl, by show i < o.tn; omega, ?_⟩, .inl hn.symm, hb⟩
  have h1 : (treeS o).tabs[i]? = some (treeT (s.tab i)) := by rw [ht, tree_at, if_pos hi]
  exact (tree_get h1).2
theorem stays {w w' : World} {s o : Sc} {role : Int} {st : St} (hs : InS w s) (hW : WholeS s) (_ho : InS w' o) (hA : AppT s role st 0 (treeS o)) : ∃ pos, Stay s o st.kind (nameOf st) pos := by
  rcases hA with ⟨-, h⟩ | ⟨-, ⟨-, h⟩ | ⟨k6, -, hX⟩ | ⟨k7, -, hX⟩ | ⟨put, hk, ⟨h, -⟩ | ⟨-, gs', hG, hX⟩⟩⟩
  · exact absurd h (by decide)
  · exact absurd h (by decide)
  · have e := hX rfl
    have ht : (treeS o).tabs = (treeS s).tabs ++ [treeT (st.def_.own role)] := by rw [e]
    have hg : o.grants = s.grants := congrArg Sd.grants e
    have hn : o.tn = s.tn + 1 := by rw [← tn_len o, ht, List.length_append, tn_len]; rfl
    refine ⟨id, rfl, fun i _ _ h => absurd (k6.symm.trans h) (by decide), fun i hi _ => ⟨rfl, by show i < o.tn; omega, ?_⟩, .inr ⟨k6, by show s.tn + 1 = o.tn; omega⟩, fun r t _ => by rw [hg]⟩
    have h1 : (treeS o).tabs[i]? = some (treeT (s.tab i)) := by rw [ht, List.getElem?_append_left (by rw [tn_len]; exact hi), tree_at, if_pos hi]
    exact (tree_get h1).2
  · obtain ⟨j, hj, e⟩ := hX rfl
    obtain ⟨hjn, hjx⟩ := firstAt_some hj
    have ht : (treeS o).tabs = (treeS s).tabs.eraseIdx j := by rw [e]
    have hg : o.grants = woG st.table s.grants := congrArg Sd.grants e
    have hn : o.tn = s.tn - 1 := by rw [← tn_len o, ht, List.length_eraseIdx_of_lt (by rw [tn_len]; exact hjn), tn_len]
    have hx : nameOf st = st.table := by unfold nameOf; rw [if_neg (by omega)]
    rw [hx]
    have huniq : ∀ i, i < s.tn → (s.tab i).name = st.table → i = j := fun i hi e1 => by
      by_cases hlt : i < j
      · have h1 := ((whT_is hs hjn).1 (hW.2.2.2.1 j hjn)).1
        rw [find_none] at h1
        exact absurd (e1.trans hjx.symm) (h1 (treeT (s.tab i)) (by
          refine List.mem_map.2 ⟨s.tab i, ?_, rfl⟩
          exact List.mem_take_iff_getElem.2 ⟨i, by simp; omega, by simp⟩))
      · by_cases hgt : j < i
        · have h1 := ((whT_is hs hi).1 (hW.2.2.2.1 i hi)).1
          rw [find_none] at h1
          exact absurd (hjx.trans e1.symm) (h1 (treeT (s.tab j)) (by
            refine List.mem_map.2 ⟨s.tab j, ?_, rfl⟩
            exact List.mem_take_iff_getElem.2 ⟨j, by simp; omega, by simp⟩))
        · omega
    refine ⟨fun i => if j < i then i - 1 else i, by simp, fun i hi e1 _ => ?_, fun i hi hne => ?_, .inl ?_, fun r t hne => ?_⟩
    · obtain rfl := huniq i hi e1
      simp
    · have hij : i ≠ j := fun e1 => hne ⟨by rw [e1]; exact hjx, k7⟩
      by_cases hlt : j < i
      · rw [if_pos (by omega), if_pos hlt]
        refine ⟨by omega, by omega, ?_⟩
        have h1 : (treeS o).tabs[i - 1]? = some (treeT (s.tab i)) := by
          rw [ht, List.getElem?_eraseIdx_of_ge (by omega), show i - 1 + 1 = i by omega, tree_at, if_pos hi]
        exact (tree_get h1).2
      · rw [if_neg (by omega), if_neg hlt]
        refine ⟨rfl, by omega, ?_⟩
        have h1 : (treeS o).tabs[i]? = some (treeT (s.tab i)) := by
          rw [ht, List.getElem?_eraseIdx_of_lt (by omega), tree_at, if_pos hi]
        exact (tree_get h1).2
    · show (if j < s.tn then s.tn - 1 else s.tn) = o.tn
      rw [if_pos hjn, hn]
    · rw [hg, bits_wo, if_neg hne]
  · exact absurd rfl h
  · have e := hX rfl
    have ht : (treeS o).tabs = (treeS s).tabs := by rw [e]
    have hg : o.grants = gs' := congrArg Sd.grants e
    have hk6 : st.kind ≠ 6 ∧ st.kind ≠ 7 := by
      unfold KindG at hk
      cases put <;> simp at hk <;> omega
    refine ⟨id, stay_same hk6.2 ht fun r t hne => ?_⟩
    have hx : nameOf st = st.table := by unfold nameOf; rw [if_neg hk6.1]
    rw [hx] at hne
    rw [hg]
    unfold GiveR at hG
    cases put with
    | true =>
      have := (put_spec hW.2.2.1 hG).2 r t
      rw [this, if_neg (fun e => hne e.2)]
    | false =>
      have := (take_spec hW.2.2.1 hG).2.2 r t
      rw [this, if_neg (fun e => hne e.2)]
theorem app_none {s o : Sc} {role : Int} {st : St} {er : Int} (h : AppF s role st er o) (he : er ≠ 0) : o = noS := by
  obtain ⟨e0, X, h1, ⟨a, b, c⟩ | ⟨a, b, c, d⟩ | ⟨a, b, c, d⟩⟩ := h
  · exact c
  · exact d
  · exact absurd c he
end Go.Proofs.YtnhalfdddcjicaaGreat

namespace Go.Proofs.YtnhalfdddcjicaaGreat
open Go.ChangeShapes Go.WideShapes Go.ChangeAt Go.RowKit
section
variable {H : Type} {enc : TypeId × Value → H} {P : Program} {w : World}
theorem cap_t {t e : TypeId} (ht : P.underlying t = some (.slice e)) {fuel : Nat} {A : Option Addr} {n cap : Nat} {x : DataW H × List MemPlace} (h : DataW.trod enc P w 0 (fun _ => true) true fuel t [.slice A n cap] = some x) : n ≤ cap := by
  rcases Deep.open_slice ht h with ⟨hcs, _⟩ | ⟨a, len, cap', m, k, D, Pl, hcs, _, hl, hm, hmm, _, hx⟩
  · simp at hcs
    omega
  · simp at hcs
    omega
theorem open_grant {t : TypeId} {f0 f1 f2 : Field} (E : IsGr P t f0 f1 f2) {r : Reach} {b0 : Nat} {v : Value} {d : DataW H} {ps : List MemPlace} (hval : Value.okWide P w r b0 t v) (h : DataW.Trod enc P w 0 (fun _ => true) true t v d ps) : ∃ c : Gr, v = c.val ∧ c.Ok := by
  obtain ⟨cs, rfl, hsz⟩ := okWide_struct E.ht hval
  obtain ⟨fuel, hf⟩ := h
  obtain ⟨e, h1, h2, h3⟩ := open_gr E fuel hf
  refine ⟨e, ?_, h2⟩
  obtain ⟨l⟩ := cs
  simp [Value.cells] at h1
  rw [h1]; rfl
theorem open_grants {t te : TypeId} {f0 f1 f2 : Field} (E : IsGr P te f0 f1 f2) (ht : P.underlying t = some (.slice te)) {A : Option Addr} {n cap : Nat} {d : DataW H} {p : List MemPlace} (h : DataW.Trod enc P w 0 (fun _ => true) true t (.slice A n cap) d p) :
    ∃ gs : List Gr, RowG w A n gs ∧ n ≤ maxLen ∧ n ≤ cap := by
  obtain ⟨fuel, hf⟩ := h
  have hcs : (Value.cells (.slice A n cap)).toList = [.slice A n cap] := by simp [Value.cells]
  rw [hcs] at hf
  obtain ⟨A', n', cap', f', q3, hmax', hsum', hok', hrow'⟩ := open_row 3 Gr.cs Gr.Ok wtG ht E.ce fuel (fun _ => rfl) (by omega) (fun q _ _ _ hh => open_gr E q hh) hf
  simp only [List.cons.injEq, and_true, Value.slice.injEq] at q3
  obtain ⟨rfl, rfl, rfl⟩ := q3
  obtain ⟨ls, s1, s2, s3⟩ := list_fn n f' hok'
  refine ⟨ls, ⟨s1, s2, fun hn => ?_⟩, hmax', cap_t ht hf⟩
  obtain ⟨b, off, e1, e2, e3⟩ := hrow' hn
  exact ⟨b, off, e1, e2, fun j hj => by
    rw [show (ls.getD j default) = f' j from s3 j hj]
    exact ⟨e3 j hj 0 _ rfl, e3 j hj 1 _ rfl, e3 j hj 2 _ rfl⟩⟩
theorem sc_cap {t tt tg : TypeId} {f0 f1 f2 : Field} (S : IsSc P t tt tg f0 f1 f2) {c : Sc} {d : DataW H} {ps : List MemPlace} (h : DataW.Trod enc P w 0 (fun _ => true) true t c.val d ps) : c.gn ≤ c.gcap := by
  obtain ⟨fuel, hf⟩ := h
  have hcs : (Value.cells c.val).toList = [.int .i64 c.ver, .slice c.tA c.tn c.tcap, .slice c.gA c.gn c.gcap] := by simp [Value.cells, Sc.val]
  rw [hcs] at hf
  obtain ⟨xs, m, hm, hx, hlen, hl, hf⟩ := DataW.trod_struct S.ht hf
  match xs, hl with
  | [y0, y1, y2], _ =>
    have h2 := hf 2 f2 rfl
    rw [S.o2, S.c2] at h2
    simp only [List.drop_zero, List.drop_succ_cons, List.take_succ_cons, List.take_zero] at h2
    exact cap_t S.u2 h2
end
end Go.Proofs.YtnhalfdddcjicaaGreat

namespace Go.Proofs.YtnhalfdddcjicaaGreat
open Go.RowKit Go.WideShapes

section
variable {H : Type} {enc : TypeId × Value → H} {P : Program} {w : World}
structure IsSt (P : Program) (t tv ts tt : TypeId) (f0 f1 f2 f3 f4 f5 f6 f7 f8 f9 : Field) : Prop where
  ht : P.underlying t = some (.struct #[f0, f1, f2, f3, f4, f5, f6, f7, f8, f9])
  ce : P.cellsOf t = 19
  o0 : f0.offset = 0
  o1 : f1.offset = 1
  o2 : f2.offset = 2
  o3 : f3.offset = 5
  o4 : f4.offset = 8
  o5 : f5.offset = 9
  o6 : f6.offset = 10
  o7 : f7.offset = 13
  o8 : f8.offset = 17
  o9 : f9.offset = 18
  c0 : P.cellsOf f0.type = 1
  c1 : P.cellsOf f1.type = 1
  c2 : P.cellsOf f2.type = 3
  c3 : P.cellsOf f3.type = 3
  c4 : P.cellsOf f4.type = 1
  c5 : P.cellsOf f5.type = 1
  c6 : P.cellsOf f6.type = 3
  c7 : P.cellsOf f7.type = 4
  c8 : P.cellsOf f8.type = 1
  c9 : P.cellsOf f9.type = 1
  u0 : P.underlying f0.type = some (.int .i64)
  u1 : P.underlying f1.type = some .string
  t2 : f2.type = tv
  t3 : f3.type = tv
  u4 : P.underlying f4.type = some (.slice ts)
  u5 : P.underlying f5.type = some .string
  t6 : f6.type = tv
  t7 : f7.type = tt
  u8 : P.underlying f8.type = some (.int .i64)
  u9 : P.underlying f9.type = some (.int .i64)
theorem open_slice1c {t e : TypeId} (ht : P.underlying t = some (.slice e)) {fuel : Nat} {c : Value} {x : DataW H × List MemPlace} (h : DataW.trod enc P w 0 (fun _ => true) true fuel t [c] = some x) : ∃ A n cap, c = .slice A n cap := by
  rcases DataW.trod_slice ht h with ⟨hcs, _⟩ | ⟨a, len, cap, elems, rest, q, hq, hcs, _, _, hl, hmx, hlen, hel, _, _⟩
  · simp only [List.cons.injEq, and_true] at hcs
    exact ⟨_, _, _, hcs⟩
  · simp only [List.cons.injEq, and_true] at hcs
    exact ⟨_, _, _, hcs⟩
theorem open_st {t tv ts tt tc te tx : TypeId} {f0 f1 f2 f3 f4 f5 f6 f7 f8 f9 k0 k1 k2 k3 g0 g1 g2 g3 g4 g5 e0 e1 e2 e3 v0 v1 v2 : Field} (S : IsSt P t tv ts tt f0 f1 f2 f3 f4 f5 f6 f7 f8 f9) (E : IsTb P tt tc te k0 k1 k2 k3) (C : IsCo P tc g0 g1 g2 g3 g4 g5) (X : IsEx P te tx tv e0 e1 e2 e3) (V : IsVal P tv v0 v1 v2)
    (fuel : Nat) {cs : List Value} {x : DataW H × List MemPlace}
    (h : DataW.trod enc P w 0 (fun _ => true) true fuel t cs = some x) : ∃ c : St, cs = c.cells.toList ∧ InSt w c ∧ wtT c.def_ + c.table.length ≤ Rows.uptoBulk x.1 := by
  obtain ⟨xs, m, hm, hx, hlen, hl, hf⟩ := DataW.trod_struct S.ht h
  rw [S.ce] at hlen
  match xs, hl with
  | [y0, y1, y2, y3, y4, y5, y6, y7, y8, y9], _ =>
    match cs, hlen with
    | [d0, d1, d2, d3, d4, d5, d6, d7, d8, d9, d10, d11, d12, d13, d14, d15, d16, d17, d18], _ =>
      have h0 := hf 0 f0 rfl
      have h1 := hf 1 f1 rfl
      have h2 := hf 2 f2 rfl
      have h3 := hf 3 f3 rfl
      have h4 := hf 4 f4 rfl
      have h5 := hf 5 f5 rfl
      have h6 := hf 6 f6 rfl
      have h7 := hf 7 f7 rfl
      have h8 := hf 8 f8 rfl
      have h9 := hf 9 f9 rfl
      rw [S.o0, S.c0] at h0
      rw [S.o1, S.c1] at h1
      rw [S.o2, S.c2, S.t2] at h2
      rw [S.o3, S.c3, S.t3] at h3
      rw [S.o4, S.c4] at h4
      rw [S.o5, S.c5] at h5
      rw [S.o6, S.c6, S.t6] at h6
      rw [S.o7, S.c7, S.t7] at h7
      rw [S.o8, S.c8] at h8
      rw [S.o9, S.c9] at h9
      simp only [List.drop_zero, List.drop_succ_cons, List.take_succ_cons, List.take_zero] at h0 h1 h2 h3 h4 h5 h6 h7 h8 h9
      obtain ⟨z0, rfl, i0⟩ := open_int1 S.u0 h0
      obtain ⟨l1, rfl, m1, b1⟩ := open_str1 S.u1 h1
      obtain ⟨x2, q2, -⟩ := open_cells V h2
      obtain ⟨x3, q3, -⟩ := open_cells V h3
      obtain ⟨A, n, cap, rfl⟩ := open_slice1c S.u4 h4
      obtain ⟨l5, rfl, -, -⟩ := open_str1 S.u5 h5
      obtain ⟨x6, q6, -⟩ := open_cells V h6
      obtain ⟨x7, q7, i7, b7⟩ := open_tb E C X V m h7
      obtain ⟨z8, rfl, i8⟩ := open_int1 S.u8 h8
      obtain ⟨z9, rfl, i9⟩ := open_int1 S.u9 h9
      simp only [List.cons.injEq, and_true] at q2 q3 q6 q7
      unfold Tb.cs at q7
      simp only [List.cons.injEq, and_true] at q7
      obtain ⟨rfl, rfl, rfl⟩ := q2
      obtain ⟨rfl, rfl, rfl⟩ := q3
      obtain ⟨rfl, rfl, rfl⟩ := q6
      obtain ⟨rfl, rfl, rfl, rfl⟩ := q7
      refine ⟨⟨z0, l1, x2, x3, A, n, cap, l5, x6, x7, z8, z9⟩, rfl, ⟨i0, m1, i7, i8, i9⟩, ?_⟩
      rw [hx]
      simp only [List.map_cons, List.map_nil, Rows.uptoBulk, Rows.uptoBulkAll]
      omega
theorem open_stmt {t tv ts tt tc te tx : TypeId} {f0 f1 f2 f3 f4 f5 f6 f7 f8 f9 k0 k1 k2 k3 g0 g1 g2 g3 g4 g5 e0 e1 e2 e3 v0 v1 v2 : Field} (S : IsSt P t tv ts tt f0 f1 f2 f3 f4 f5 f6 f7 f8 f9) (E : IsTb P tt tc te k0 k1 k2 k3) (C : IsCo P tc g0 g1 g2 g3 g4 g5) (X : IsEx P te tx tv e0 e1 e2 e3) (V : IsVal P tv v0 v1 v2)
    {r : Reach} {b0 : Nat} {v : Value} {d : DataW H} {ps : List MemPlace} (hval : Value.okWide P w r b0 t v) (h : DataW.Trod enc P w 0 (fun _ => true) true t v d ps) : ∃ c : St, v = c.val ∧ InSt w c ∧ wtT c.def_ + c.table.length ≤ Rows.uptoBulk d := by
  obtain ⟨cs, rfl, hsz⟩ := okWide_struct S.ht hval
  obtain ⟨fuel, hf⟩ := h
  obtain ⟨e, h1, h2, h3⟩ := open_st S E C X V fuel hf
  refine ⟨e, ?_, h2, h3⟩
  obtain ⟨l⟩ := cs
  simp [Value.cells] at h1
  show Value.agg _ = Value.agg e.cells
  rw [h1]
end
theorem isSt_ex : ∃ f0 f1 f2 f3 f4 f5 f6 f7 f8 f9, IsSt Tryz.prog 34 27 27 32 f0 f1 f2 f3 f4 f5 f6 f7 f8 f9 :=
  ⟨_, _, _, _, _, _, _, _, _, _, Tryz.underlying34, by kernel_rfl, rfl, rfl, rfl, rfl, rfl, rfl, rfl, rfl, rfl, rfl, by kernel_rfl, by kernel_rfl, by kernel_rfl, by kernel_rfl, by kernel_rfl, by kernel_rfl, by kernel_rfl, by kernel_rfl, by kernel_rfl, by kernel_rfl,
    Tryz.underlying3, Tryz.underlying9, rfl, rfl, Tryz.underlying28, Tryz.underlying9, rfl, rfl, Tryz.underlying3, Tryz.underlying3⟩
end Go.Proofs.YtnhalfdddcjicaaGreat

namespace Go.Proofs.YtnhalfdddcjicaaGreat
open Go.ChangeShapes Go.WideShapes Go.ChangeAt Go.RowKit
section
variable {H : Type} {enc : TypeId × Value → H} {P : Program} {w : World}
theorem sc_capT {t tt tg : TypeId} {f0 f1 f2 : Field} (S : IsSc P t tt tg f0 f1 f2) {c : Sc} {d : DataW H} {ps : List MemPlace} (h : DataW.Trod enc P w 0 (fun _ => true) true t c.val d ps) : c.tn ≤ c.tcap := by
  obtain ⟨fuel, hf⟩ := h
  have hcs : (Value.cells c.val).toList = [.int .i64 c.ver, .slice c.tA c.tn c.tcap, .slice c.gA c.gn c.gcap] := by simp [Value.cells, Sc.val]
  rw [hcs] at hf
  obtain ⟨xs, m, hm, hx, hlen, hl, hf⟩ := DataW.trod_struct S.ht hf
  match xs, hl with
  | [y0, y1, y2], _ =>
    have h1 := hf 1 f1 rfl
    rw [S.o1, S.c1] at h1
    simp only [List.drop_zero, List.drop_succ_cons, List.take_succ_cons, List.take_zero] at h1
    exact cap_t S.u1 h1
end
end Go.Proofs.YtnhalfdddcjicaaGreat
