/- What a statement leaves is whole where what it began with was. -/
/- Plain mathematics for what is made and taken back: lengths, weights, grants. -/
/- What is made and taken back. -/
import Derived.Test.YtnhalfdddcjicaaGreatQJbf
namespace Go.Proofs.YtnhalfdddcjicaaGreat
open Go.RowKit

theorem set_mem {gs : List Gr} {i : Nat} {b : Int} (hi : i < gs.length) {x : Gr} (hx : x ∈ gs.set i ⟨(atG gs i).role, (atG gs i).table, b⟩) : ∃ g ∈ gs, g.table = x.table := by
  rcases List.mem_or_eq_of_mem_set hx with h | rfl
  · exact ⟨x, h, rfl⟩
  · exact ⟨atG gs i, getD_in2 hi, rfl⟩
theorem give_tab {put : Bool} {gs gs' : List Gr} {g : Gr} {er : Int} (h : GiveR put gs g er gs') : ∀ x ∈ gs', (∃ y ∈ gs, y.table = x.table) ∨ x.table = g.table := by
  unfold GiveR at h
  cases put with
  | true =>
    rcases h with ⟨_, _, rfl⟩ | ⟨_, i, b, hp, ⟨_, _, _, rfl⟩ | ⟨_, _, _, rfl⟩ | ⟨rfl, _, rfl⟩⟩
    · exact fun x hx => by simp at hx
    · exact fun x hx => by simp at hx
    · intro x hx
      rcases List.mem_append.1 hx with hx | hx
      · exact .inl ⟨x, List.mem_of_mem_take hx, rfl⟩
      · rcases List.mem_cons.1 hx with rfl | hx
        · exact .inr rfl
        · exact .inl ⟨x, List.mem_of_mem_drop hx, rfl⟩
    · exact fun x hx => .inl (set_mem (hp.yes rfl).1 hx)
  | false =>
    rcases h with ⟨_, _, rfl⟩ | ⟨_, _, i, b, hp, ⟨_, rfl⟩ | ⟨rfl, _, rfl⟩ | ⟨_, _, rfl⟩⟩
    · exact fun x hx => by simp at hx
    · exact fun x hx => .inl ⟨x, hx, rfl⟩
    · exact fun x hx => .inl (set_mem (hp.yes rfl).1 hx)
    · intro x hx
      rcases List.mem_append.1 hx with hx | hx
      · exact .inl ⟨x, List.mem_of_mem_take hx, rfl⟩
      · exact .inl ⟨x, List.mem_of_mem_drop hx, rfl⟩
theorem give_sorted {put : Bool} {gs gs' : List Gr} {g : Gr} (hs : SortedG gs) (h : GiveR put gs g 0 gs') : SortedG gs' := by
  unfold GiveR at h
  cases put with
  | true => exact (put_spec hs h).1
  | false => exact (take_spec hs h).1
theorem wo_sorted {gs : List Gr} (x : List UInt8) (hs : SortedG gs) : SortedG (woG x gs) := by
  rw [sorted_pw] at hs ⊢
  exact ⟨Nat.le_trans (wo_len x gs) hs.1, fun g hg => hs.2.1 g (List.mem_filter.1 (show g ∈ gs.filter _ from hg)).1, hs.2.2.filter _⟩
theorem wo_mem {gs : List Gr} {x : List UInt8} {g : Gr} (h : g ∈ woG x gs) : g ∈ gs ∧ g.table ≠ x := by
  obtain ⟨h1, h2⟩ := List.mem_filter.1 (show g ∈ gs.filter _ from h)
  exact ⟨h1, by simpa using h2⟩
theorem getD_all {gs : List Gr} {n : Nat} (hn : gs.length = n) {p : Gr → Prop} : (∀ i, i < n → p (gs.getD i default)) ↔ ∀ g ∈ gs, p g := by
  subst hn
  constructor
  · intro h g hg
    obtain ⟨i, hi, rfl⟩ := List.getElem_of_mem hg
    have := h i hi
    rw [List.getD_eq_getElem?_getD, List.getElem?_eq_getElem hi] at this
    exact this
  · exact fun h i hi => h _ (getD_in2 hi)
abbrev tabL (s : Sc) : List Tb := (List.range s.tn).map s.tab
theorem in_tabL {w : World} {s : Sc} (hs : InS w s) : ∀ x ∈ tabL s, InT w x := fun x hx => by
  obtain ⟨j, hj, rfl⟩ := List.mem_map.1 hx
  exact in_tab hs (List.mem_range.1 hj)
theorem whole_is {w : World} {s : Sc} (hs : InS w s) : WholeS s ↔ 0 ≤ s.ver ∧ (tabL s).length ≤ 12 ∧ SortedG s.grants ∧ WholeL (tabL s) ∧ ∀ g ∈ s.grants, findD ((tabL s).map treeT) g.table ≠ none := by
  unfold WholeS
  rw [wholeL_is hs, getD_all hs.grants.1]
  have h : ∀ g : Gr, WhG s g ↔ findD ((tabL s).map treeT) g.table ≠ none := fun g => by
    unfold WhG
    rw [Ne, tab_none, treeS_list]
  simp only [h]
  simp
theorem whole_tree {w w' : World} {o : Sc} {v : Int} {L : List Tb} {gs : List Gr} (ho : InS w' o) (hin : ∀ x ∈ L, InT w x) (e : treeS o = ⟨v, L.map treeT, gs⟩) (hv : 0 ≤ v) (hl : L.length ≤ 12) (hsg : SortedG gs) (hL : WholeL L) (hg : ∀ g ∈ gs, findD (L.map treeT) g.table ≠ none) : WholeS o := by
  have e1 : o.ver = v := congrArg Sd.ver e
  have e2 : (tabL o).map treeT = L.map treeT := by rw [← treeS_list, e]
  have e3 : o.grants = gs := congrArg Sd.grants e
  rw [whole_is ho, e1, e2, e3]
  refine ⟨hv, ?_, hsg, hL.like hin (in_tabL ho) e2.symm, hg⟩
  have := congrArg List.length e2
  simp only [List.length_map] at this hl ⊢
  omega
theorem find_more {A B : List Td} {x : List UInt8} (h : findD A x ≠ none) : findD (A ++ B) x ≠ none := fun e => h (by
  rw [find_none] at e ⊢
  exact fun t ht => e t (List.mem_append.2 (.inl ht)))
theorem next_ver {v : Int} (h0 : 0 ≤ v) (h : v < 4611686018427387904) : vnext v = v + 1 := by unfold vnext; rw [IntKind.wrap_i64]; omega
theorem whole_app {w w' : World} {s o : Sc} {role : Int} {st : St} (hs : InS w s) (hst : InSt w st) (hr : I64 role) (ho : InS w' o) (hW : WholeS s) (hv : s.ver < 4611686018427387904) (hX : AppT s role st 0 (treeS o)) : WholeS o ∧ o.ver = s.ver + 1 := by
  obtain ⟨w0, w1, w2, w3, w4⟩ := (whole_is hs).1 hW
  have hn := next_ver w0 hv
  have hin := in_tabL hs
  rcases hX with ⟨-, h⟩ | ⟨-, ⟨-, h⟩ | ⟨-, hE, hX⟩ | ⟨-, hE, hX⟩ | ⟨put, -, ⟨h, -⟩ | ⟨hO, gs', hg, hX⟩⟩⟩
  · exact absurd h (by decide)
  · exact absurd h (by decide)
  · have e := hX rfl
    refine ⟨?_, by rw [← hn]; exact congrArg Sd.ver e⟩
    rcases hE with ⟨-, h⟩ | ⟨hT, ⟨h1, h2⟩ | ⟨hG, ⟨-, h⟩ | ⟨-, ⟨-, h⟩ | ⟨h12, -⟩⟩⟩⟩
    · exact absurd h (by decide)
    · exact absurd h2.symm h1
    · exact absurd h (by decide)
    · exact absurd h (by decide)
    · rw [treeS_list, show [treeT (st.def_.own role)] = List.map treeT [st.def_.own role] from rfl, ← List.map_append] at e
      rw [tab_none, treeS_list] at hT
      rw [good_is, look_is (fun j hj => cols_len hs hj), treeS_list] at hG
      refine whole_tree (w := w) ho (fun x hx => ?_) e (by omega) (by simp; omega) w2 (w3.snoc hT hG) (fun g hg => ?_)
      · rcases List.mem_append.1 hx with hx | hx
        · exact hin x hx
        · obtain rfl : x = st.def_.own role := by simpa using hx
          exact ⟨hr, hst.def_.name, hst.def_.cmax, hst.def_.emax, hst.def_.cols, hst.def_.chk⟩
      · rw [List.map_append]
        exact find_more (w4 g hg)
  · obtain ⟨j, hj, e⟩ := hX rfl
    refine ⟨?_, by rw [← hn]; exact congrArg Sd.ver e⟩
    obtain ⟨hjn, hjx⟩ := firstAt_some hj
    rcases hE with ⟨-, h⟩ | ⟨-, ⟨-, h⟩ | ⟨hnr, -⟩⟩
    · exact absurd rfl h
    · exact absurd h (by decide)
    · rw [treeS_list, show (List.map treeT ((List.range s.tn).map s.tab)).eraseIdx j = List.map treeT (((List.range s.tn).map s.tab).eraseIdx j) by rw [List.eraseIdx_eq_take_drop_succ, List.eraseIdx_eq_take_drop_succ, List.map_append, List.map_take, List.map_drop]] at e
      have es := split_i (L := tabL s) (i := j) (by simpa using hjn)
      have h3 : (tabL s).getD j default = s.tab j := by simp [tabL, hjn]
      rw [h3] at es
      have ee : (tabL s).eraseIdx j = (tabL s).take j ++ (tabL s).drop (j + 1) := List.eraseIdx_eq_take_drop_succ ..
      rw [ee] at e
      obtain ⟨P, hP⟩ : ∃ P, (tabL s).take j = P := ⟨_, rfl⟩
      obtain ⟨Q, hQ⟩ : ∃ Q, (tabL s).drop (j + 1) = Q := ⟨_, rfl⟩
      rw [hP, hQ] at es e
      have hin2 := hin
      rw [es] at w1 w3 hin
      refine whole_tree (w := w) ho (fun x hx => hin x ?_) e (by omega) (by simp at w1 ⊢; omega) (wo_sorted _ w2) (w3.erase hin (fun x hx hne c hc h0 hd => ?_)) (fun g hg => ?_)
      · rcases List.mem_append.1 hx with h' | h'
        · exact List.mem_append.2 (.inl h')
        · exact List.mem_append.2 (.inr (List.mem_cons_of_mem _ h'))
      · rw [hjx] at hne hd
        obtain ⟨i, hi, rfl⟩ := List.mem_map.1 (show x ∈ tabL s by rw [es]; exact hx)
        exact hnr ⟨by rw [← hd]; exact h0, i, List.mem_range.1 hi, hne, c, hc, hd⟩
      · obtain ⟨g1, g2⟩ := wo_mem hg
        have := w4 g g1
        rw [es, List.map_append, List.map_cons, find_skip (show (treeT (s.tab j)).name ≠ g.table from fun e => g2 (by rw [← e]; exact hjx.symm ▸ rfl))] at this
        rw [List.map_append]
        exact this
  · exact absurd rfl h
  · have e := hX rfl
    refine ⟨?_, by rw [← hn]; exact congrArg Sd.ver e⟩
    rw [treeS_list] at e
    refine whole_tree (w := w) ho hin e (by omega) w1 (give_sorted w2 hg) w3 (fun g hgm => ?_)
    rcases give_tab hg g hgm with ⟨y, hy, e1⟩ | e1
    · rw [← e1]; exact w4 y hy
    · rw [e1]
      rcases hO with ⟨-, h⟩ | ⟨h, -⟩
      · exact absurd h (by decide)
      · rw [Ne, tab_none, treeS_list] at h
        exact h
end Go.Proofs.YtnhalfdddcjicaaGreat

namespace Go.Proofs.YtnhalfdddcjicaaGreat
open Go.RowKit

theorem uv_mono : ∀ {m m' : Nat}, m ≤ m' → (Lib.uvarint m).length ≤ (Lib.uvarint m').length := by
  intro m
  induction m using Nat.strongRecOn with
  | _ m ih =>
    intro m' h
    by_cases h1 : m < 128
    · rw [Lib.uvarint_small h1]; exact Lib.uvarint_pos m'
    · rw [Lib.uvarint_big (show 128 ≤ m by omega), Lib.uvarint_big (show 128 ≤ m' by omega)]
      simp only [List.length_cons]
      have := ih (m / 128) (by omega) (m' := m' / 128) (by omega)
      omega
theorem uv_next {m m' : Nat} (h : m' / 128 ≤ m) : (Lib.uvarint m').length ≤ (Lib.uvarint m).length + 1 := by
  by_cases h1 : m' < 128
  · rw [Lib.uvarint_small h1]; simp
  · rw [Lib.uvarint_big (show 128 ≤ m' by omega)]
    simp only [List.length_cons]
    have := uv_mono h
    omega
theorem enc_mono {a b : Int} (h0 : 0 ≤ a) (h : a ≤ b) : (enc a).length ≤ (enc b).length := by
  have h1 := Lib.zigzag_nonneg h0
  have h2 := Lib.zigzag_nonneg (show 0 ≤ b by omega)
  exact uv_mono (by omega)
theorem enc_next {a : Int} (h0 : 0 ≤ a) : (enc (a + 1)).length ≤ (enc a).length + 1 := by
  have h1 := Lib.zigzag_nonneg h0
  have h2 := Lib.zigzag_nonneg (show 0 ≤ a + 1 by omega)
  exact uv_next (by omega)
theorem enc_one (a : Int) : 1 ≤ (enc a).length := Lib.uvarint_pos _

theorem flat_lo {α : Type} (f : α → List UInt8) (g : Nat → α) (wt : Nat → Nat) : ∀ n, (∀ j, j < n → wt j ≤ 2 * (f (g j)).length) → sumN n wt ≤ 2 * (((List.range n).map g).map f).flatten.length
  | 0, _ => by simp [sumN]
  | n + 1, h => by
    have h1 := flat_lo f g wt n fun j hj => h j (by omega)
    have h2 := h n (by omega)
    rw [flat_step, sumN_succ, List.length_append]
    omega
theorem flatL_lo {α : Type} [Inhabited α] (f : α → List UInt8) (l : List α) (wt : α → Nat) (h : ∀ a ∈ l, wt a ≤ 2 * (f a).length) : ∀ n, n ≤ l.length → sumN n (fun j => wt (l.getD j default)) ≤ 2 * ((l.take n).map f).flatten.length
  | 0, _ => by simp [sumN]
  | n + 1, hn => by
    have h1 := flatL_lo f l wt h n (by omega)
    have h2 := h (l.getD n default) (getD_in (by omega))
    rw [flatL_step f (by omega), sumN_succ, List.length_append]
    omega
theorem bytesV_ge (v : Vl) : 3 + v.text.length ≤ (bytesV v).length := by
  unfold bytesV encS
  simp only [List.length_append]
  have := enc_one v.kind
  have := enc_one v.num
  have := enc_one (v.text.length : Int)
  omega
theorem wt_encE {w : World} : ∀ {e : Ex}, InE w e → wtE e ≤ 2 * (encE (treeE e)).length
  | .nil, h => h.elim
  | .mk op col v A n cap arg, h => by
    rw [InE] at h
    obtain ⟨i1, i2, hv, hn, hc⟩ := h
    rw [wtE]
    have ha : ∀ j, j < n → InE w (arg j) := fun j hj => by
      obtain ⟨_, _, _, _, hx⟩ := hc (by omega)
      exact (hx j hj).2
    have hs := flat_lo encE (fun j => treeE (arg j)) (fun j => wtE (arg j)) n fun j hj => wt_encE (ha j hj)
    rw [encE_tree]
    simp only [List.length_append]
    have := enc_one op
    have := enc_one col
    have := bytesV_ge v
    have := enc_one (n : Int)
    omega
theorem wt_encC (c : Co) : wtC c ≤ 2 * (encC c).length := by
  unfold wtC encC encS encB
  simp only [List.length_append]
  have := enc_one c.kind
  have := enc_one c.del
  have := enc_one (c.name.length : Int)
  have := enc_one (c.ref.length : Int)
  have := enc_one (if c.nn = true then 1 else 0)
  have := enc_one (if c.un = true then 1 else 0)
  omega
theorem wt_encG (c : Gr) : wtG c ≤ 2 * (encG c).length := by
  unfold wtG encG encS
  simp only [List.length_append]
  have := enc_one c.role
  have := enc_one c.bits
  have := enc_one (c.table.length : Int)
  omega
theorem wt_encT {w : World} {t : Tb} (h : InT w t) : wtT t ≤ 2 * (encT (treeT t)).length := by
  obtain ⟨nm, ow, cA, cn, ccap, cols, eA, en, ecap, chk⟩ := t
  obtain ⟨-, -, -, -, hC, hE⟩ := h
  unfold wtT
  simp only at hC hE ⊢
  have hcl := hC.1
  have s1 := flatL_lo encC cols wtC (fun c _ => wt_encC c) cn (by omega)
  have s2 := flat_lo encE (fun j => treeE (chk j)) (fun j => wtE (chk j)) en fun j hj => by
    obtain ⟨_, _, _, _, hx⟩ := hE (by omega)
    exact wt_encE (hx j hj).2
  rw [encT_is nm ow cA cn ccap cols eA en ecap chk hcl]
  unfold flC flE encS
  simp only [List.length_append]
  have := enc_one (nm.length : Int)
  have := enc_one ow
  have := enc_one (cn : Int)
  have := enc_one (en : Int)
  omega
theorem wtL_enc {w : World} : ∀ {L : List Tb}, (∀ x ∈ L, InT w x) → wtL L ≤ 2 * ((L.map treeT).map encT).flatten.length
  | [], _ => by simp [wtL]
  | x :: L, h => by
    have h1 := wtL_enc (L := L) fun y hy => h y (List.mem_cons_of_mem _ hy)
    have h2 := wt_encT (h x (List.mem_cons_self ..))
    unfold wtL at h1 ⊢
    simp only [List.map_cons, List.sum_cons, List.flatten_cons, List.length_append]
    omega
theorem wtGs_enc : ∀ gs : List Gr, wtGs gs ≤ 2 * (gs.map encG).flatten.length
  | [] => by simp [wtGs]
  | x :: L => by
    have h1 := wtGs_enc L
    have h2 := wt_encG x
    unfold wtGs at h1 ⊢
    simp only [List.map_cons, List.sum_cons, List.flatten_cons, List.length_append]
    omega
/-- A schema whose bytes are few is small. -/
theorem wt_encS {w : World} {s : Sc} (hs : InS w s) : wtS s ≤ 2 * (encSd (treeS s)).length := by
  have h1 := wt_two hs
  have h2 := wtL_enc (in_tabL hs)
  have h3 := wtGs_enc s.grants
  unfold encSd
  rw [show (treeS s).tabs = (tabL s).map treeT from treeS_list s]
  simp only [List.length_append]
  have := enc_one (treeS s).ver
  have := enc_one (((tabL s).map treeT).length : Int)
  have := enc_one ((treeS s).grants.length : Int)
  have e : (treeS s).grants = s.grants := rfl
  rw [e] at this ⊢
  unfold tabL at h2 ⊢
  omega

theorem bits_wo {T : List UInt8} {r : Int} {t : List UInt8} : ∀ gs : List Gr, bitsG r t (woG T gs) = if t = T then 0 else bitsG r t gs
  | [] => by simp [woG, bitsG]
  | g :: l => by
    have ih := bits_wo (T := T) (r := r) (t := t) l
    unfold woG at ih ⊢
    rw [List.filter_cons]
    by_cases h : g.table = T
    · rw [if_neg (by simp [h]), ih, bitsG]
      by_cases ht : t = T
      · rw [if_pos ht, if_pos ht]
      · rw [if_neg ht, if_neg ht, if_neg (fun e => ht (e.2.symm.trans h))]
    · rw [if_pos (by simp [h]), bitsG, bitsG, ih]
      by_cases ht : t = T
      · rw [if_pos ht, if_pos ht, if_neg (fun e => h (e.2.trans ht))]
      · rw [if_neg ht, if_neg ht]
theorem an_self {b : Int} (hb : Five b) : anI b b = 0 := by
  obtain ⟨n, rfl, hn⟩ := five_nat hb
  obtain ⟨k, h1, h2, -⟩ := anI_nat hn hn
  rw [h1, h2]
  simp
theorem wo_len_flat (T : List UInt8) : ∀ gs : List Gr, ((woG T gs).map encG).flatten.length ≤ (gs.map encG).flatten.length
  | [] => by simp [woG]
  | g :: l => by
    have ih := wo_len_flat T l
    unfold woG at ih ⊢
    rw [List.filter_cons]
    split
    · simp only [List.map_cons, List.flatten_cons, List.length_append]; omega
    · simp only [List.map_cons, List.flatten_cons, List.length_append]; omega
theorem wo_all {T : List UInt8} {gs : List Gr} (h : ∀ g ∈ gs, g.table ≠ T) : woG T gs = gs := by
  unfold woG
  exact List.filter_eq_self.2 fun g hg => by simpa using h g hg
/-- What was given to who had none, taken from the list. -/
theorem put_wo {gs gs' : List Gr} {g : Gr} (hs : SortedG gs) (h : PutR gs g 0 gs') (hn : ∀ x ∈ gs, x.table ≠ g.table) : woG g.table gs' = gs := by
  obtain ⟨h1, h2⟩ := put_spec hs h
  refine sorted_ext (wo_sorted _ h1) hs fun r t => ?_
  rw [bits_wo, h2]
  by_cases ht : t = g.table
  · rw [if_pos ht, bits_none fun x hx e => hn x hx (e.2.trans ht)]
  · rw [if_neg ht, if_neg (fun e => ht e.2)]
theorem put_take {gs gs' gs2 : List Gr} {g : Gr} (hs : SortedG gs) (h : PutR gs g 0 gs') (hn : ∀ x ∈ gs, x.table ≠ g.table) (h2 : TakeR gs' g 0 gs2) : gs2 = gs := by
  obtain ⟨h1, hb⟩ := put_spec hs h
  obtain ⟨k1, -, kb⟩ := take_spec h1 h2
  have hg : goodG g = true := by
    rcases h with ⟨_, h, _⟩ | ⟨h, _⟩
    · exact absurd h (by decide)
    · exact h
  have h5 : Five g.bits := by
    unfold goodG at hg
    simp only [Bool.and_eq_true, decide_eq_true_eq] at hg
    exact ⟨by omega, hg.2.2.2⟩
  refine sorted_ext k1 hs fun r t => ?_
  rw [kb, hb]
  by_cases e : r = g.role ∧ t = g.table
  · rw [if_pos e, if_pos e, bits_none (gs := gs) fun x hx e' => hn x hx (e'.2.trans e.2), or_zero h5, an_self h5]
  · rw [if_neg e, if_neg e]
end Go.Proofs.YtnhalfdddcjicaaGreat

namespace Go.Proofs.YtnhalfdddcjicaaGreat
open Go.RowKit

theorem tree_at (s : Sc) (i : Nat) : (treeS s).tabs[i]? = if i < s.tn then some (treeT (s.tab i)) else none := by
  unfold treeS
  simp only [List.getElem?_map]
  by_cases h : i < s.tn
  · rw [if_pos h, List.getElem?_range h]; rfl
  · rw [if_neg h, List.getElem?_eq_none (by simp; omega)]; rfl
theorem firstE_each {f : Nat → Int} : ∀ {n : Nat}, firstE f n = 0 → ∀ i, i < n → f i = 0
  | 0, _, i, hi => by omega
  | n + 1, h, i, hi => by
    rw [firstE] at h
    by_cases h0 : firstE f n = 0
    · rw [if_pos h0] at h
      rcases Nat.lt_succ_iff_lt_or_eq.1 hi with h' | rfl
      · exact firstE_each h0 i h'
      · exact h
    · rw [if_neg h0] at h
      exact absurd h h0
/-- What a good table refers to is there. -/
theorem good_ref {w : World} {t : Tb} (ht : InT w t) {look : List UInt8 → Option (Nat × Int)} (h : goodL t look = 0) {c : Co} (hc : c ∈ t.cols) (h0 : c.ref ≠ []) (h1 : c.ref ≠ t.name) : look c.ref ≠ none := by
  intro hn
  unfold goodL at h
  split at h
  · exact absurd h (by decide)
  split at h
  · exact absurd h (by decide)
  split at h
  · exact absurd h (by decide)
  split at h
  · exact absurd h (by decide)
  split at h
  · exact absurd h (by decide)
  split at h
  · rename_i hf
    obtain ⟨i, hi, rfl⟩ := List.getElem_of_mem hc
    have := firstE_each hf i (by rw [← ht.cols.1]; exact hi)
    have e : t.cols.getD i default = t.cols[i] := by rw [List.getD_eq_getElem?_getD, List.getElem?_eq_getElem hi]; rfl
    unfold colL refL at this
    rw [e, if_neg h0, if_neg h1, hn] at this
    split at this
    · exact absurd this (by decide)
    split at this
    · exact absurd this (by decide)
    split at this
    · exact absurd this (by decide)
    · exact absurd (show (8 : Int) = 0 from this) (by decide)
  · rename_i hf
    exact hf h
/-- In what is whole no table refers to a name that none bears. -/
theorem whole_ref {w : World} {s : Sc} (hs : InS w s) (h : WholeS s) {x : List UInt8} (hx : findD (treeS s).tabs x = none) {i : Nat} (hi : i < s.tn) {c : Co} (hc : c ∈ (s.tab i).cols) (h0 : c.ref ≠ []) : c.ref ≠ x := by
  intro e
  have hnx : (s.tab i).name ≠ x := (find_none.1 hx) (treeT (s.tab i)) (by
    rw [treeS_list]; exact List.mem_map.2 ⟨s.tab i, List.mem_map.2 ⟨i, List.mem_range.2 hi, rfl⟩, rfl⟩)
  have hg := ((whT_is hs hi).1 (h.2.2.2.1 i hi)).2
  have hl := good_ref (in_tab hs hi) hg hc h0 (fun e' => hnx (e'.symm.trans e))
  unfold lookD at hl
  have : findD ((((List.range s.tn).map s.tab).take i).map treeT) c.ref = none := by
    rw [find_none] at hx ⊢
    intro t ht
    rw [e]
    refine hx t ?_
    rw [treeS_list]
    obtain ⟨y, hy, rfl⟩ := List.mem_map.1 ht
    exact List.mem_map.2 ⟨y, List.mem_of_mem_take hy, rfl⟩
  rw [this] at hl
  exact hl rfl
/-- A schema with a new table behind the others, and perhaps a grant on it. -/
structure Made (w : World) (s : Sc) (t : Tb) (x : Sc) : Prop where
  hin : InS w x
  tabs : (treeS x).tabs = (treeS s).tabs ++ [treeT (t.own 0)]
  grants : woG t.name x.grants = s.grants
  whole : WholeS x
  ver : 0 ≤ x.ver ∧ x.ver ≤ 1152921504606846979
  len : (encSd (treeS x)).length ≤ 8192
section
variable {w w' : World} {s x : Sc} {t : Tb} (hs : InS w s) (hW : WholeS s) (hn : findD (treeS s).tabs t.name = none) (h : Made w' s t x)
include h
theorem Made.tn : x.tn = s.tn + 1 := by
  have := congrArg List.length h.tabs
  unfold treeS at this
  simpa using this
theorem Made.old {i : Nat} (hi : i < s.tn) : treeT (x.tab i) = treeT (s.tab i) := by
  have := congrArg (fun l => l[i]?) h.tabs
  rw [tree_at, if_pos (by rw [h.tn]; omega), List.getElem?_append_left (by unfold treeS; simpa using hi), tree_at, if_pos hi] at this
  exact Option.some.inj this
theorem Made.new : treeT (x.tab s.tn) = treeT (t.own 0) := by
  have := congrArg (fun l => l[s.tn]?) h.tabs
  rw [tree_at, if_pos (by rw [h.tn]; omega), List.getElem?_append_right (by unfold treeS; simp)] at this
  have e : (treeS s).tabs.length = s.tn := by unfold treeS; simp
  rw [e, Nat.sub_self] at this
  exact Option.some.inj this
include hn
theorem Made.tab : tabAt x t.name = some s.tn := by
  cases hx : tabAt x t.name with
  | none =>
    rw [tab_none, h.tabs, find_none] at hx
    exact absurd rfl (hx (treeT (t.own 0)) (by simp))
  | some j =>
    obtain ⟨h1, h2⟩ := firstAt_some hx
    rw [h.tn] at h1
    by_cases hj : j < s.tn
    · have e := congrArg Td.name (h.old hj)
      have : (s.tab j).name ≠ t.name := (find_none.1 hn) (treeT (s.tab j)) (by
        rw [treeS_list]; exact List.mem_map.2 ⟨s.tab j, List.mem_map.2 ⟨j, List.mem_range.2 hj, rfl⟩, rfl⟩)
      exact absurd (e.symm.trans h2) this
    · congr 1; omega
theorem Made.owns : ownsS x 0 t.name = true := by
  have e : (x.tab s.tn).owner = 0 := congrArg Td.owner h.new
  unfold ownsS
  rw [h.tab hn]
  simp [e]
include hs hW
theorem Made.unref : ¬ refersS x t.name := by
  rintro ⟨h0, j, hj, h1, c, hc, hr⟩
  rw [h.tn] at hj
  have hjn : j < s.tn := by
    by_cases e : j = s.tn
    · exact absurd (by rw [e]; exact congrArg Td.name h.new) h1
    · omega
  rw [show (x.tab j).cols = (s.tab j).cols from congrArg Td.cols (h.old hjn)] at hc
  exact whole_ref hs hW hn hjn hc (by rw [hr]; exact h0) hr
theorem Made.drop {er : Int} {o : Sc} (hA : AppF x 0 (stAt 7 t.name default 0 0) er o) : er = 0 ∧ (treeS o).tabs = (treeS s).tabs ∧ o.grants = s.grants := by
  have hv := next_ver h.ver.1 (by have := h.ver.2; omega)
  have hO : ErrO x 0 t.name 0 := .inr ⟨by rw [h.tab hn]; exact fun e => (by cases e), .inr ⟨h.owns hn, rfl⟩⟩
  have hD : ErrD x 0 t.name 0 := .inr ⟨hO, .inr ⟨h.unref hs hW hn, rfl⟩⟩
  have hX : AppT x 0 (stAt 7 t.name default 0 0) 0 ⟨vnext x.ver, (treeS s).tabs, s.grants⟩ := by
    refine .inr ⟨by decide, .inr (.inr (.inl ⟨rfl, hD, fun _ => ⟨s.tn, h.tab hn, ?_⟩⟩))⟩
    show _ = (⟨vnext x.ver, (treeS x).tabs.eraseIdx s.tn, woG t.name x.grants⟩ : Sd)
    rw [h.grants, h.tabs, List.eraseIdx_append_of_length_le (by unfold treeS; simp)]
    have e : (treeS s).tabs.length = s.tn := by unfold treeS; simp
    rw [e, Nat.sub_self]
    simp
  have hl : (encSd ⟨vnext x.ver, (treeS s).tabs, s.grants⟩).length ≤ 8192 := by
    have h1 := h.len
    have e : treeS x = ⟨x.ver, (treeS s).tabs ++ [treeT (t.own 0)], x.grants⟩ := by rw [← h.tabs]; rfl
    rw [e] at h1
    unfold encSd at h1 ⊢
    simp only [List.length_append, List.map_append, List.flatten_append, List.map_cons, List.map_nil, List.flatten_cons, List.flatten_nil, List.length_nil, List.length_cons] at h1 ⊢
    have k1 := enc_next h.ver.1
    have k2 := enc_mono (a := ((treeS s).tabs.length : Int)) (b := (((treeS s).tabs.length + 1 : Nat) : Int)) (by omega) (by omega)
    have k3 := wo_len_flat t.name x.grants
    have k4 := wo_len t.name x.grants
    rw [h.grants] at k3 k4
    have k5 := enc_mono (a := (s.grants.length : Int)) (b := (x.grants.length : Int)) (by omega) (by omega)
    have k6 : 1 ≤ (encT (treeT (t.own 0))).length := by
      unfold encT encS
      simp only [List.length_append]
      have := enc_one (((treeT (t.own 0)).name.length : Nat) : Int)
      omega
    rw [hv]
    simp only [Nat.zero_add] at h1
    omega
  obtain ⟨e0, X, h1, h2⟩ := hA
  obtain ⟨rfl, k2⟩ := h1.one h.whole.2.2.1 hX
  have k3 := k2 rfl
  subst k3
  rcases h2 with ⟨a, -⟩ | ⟨-, a, -⟩ | ⟨-, -, rfl, a⟩
  · exact absurd rfl a
  · omega
  · exact ⟨rfl, by rw [a], by have := congrArg Sd.grants a; exact this⟩
end
end Go.Proofs.YtnhalfdddcjicaaGreat
