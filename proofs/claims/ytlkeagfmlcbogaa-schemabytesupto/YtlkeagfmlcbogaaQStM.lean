/- Plain mathematics: how long a schema's bytes are; schemas whose trees are one are alike. -/
import Derived.Test.YtlkeagfmlcbogaaQSsC
namespace Go.Proofs.Ytlkeagfmlcbogaa

theorem flat_sum {α : Type} (f : α → List UInt8) (g : Nat → α) (wt : Nat → Nat) : ∀ n, (∀ j, j < n → (f (g j)).length ≤ 10 * wt j) → (((List.range n).map g).map f).flatten.length ≤ 10 * sumN n wt
  | 0, _ => by simp
  | n + 1, h => by
    have h1 := flat_sum f g wt n fun j hj => h j (by omega)
    have h2 := h n (by omega)
    rw [flat_step, sumN_succ, List.length_append]
    omega
theorem flatL_sum {α : Type} [Inhabited α] (f : α → List UInt8) (l : List α) (wt : α → Nat) (h : ∀ a ∈ l, (f a).length ≤ 10 * wt a) : ∀ n, n ≤ l.length → ((l.take n).map f).flatten.length ≤ 10 * sumN n fun j => wt (l.getD j default)
  | 0, _ => by simp
  | n + 1, hn => by
    have h1 := flatL_sum f l wt h n (by omega)
    have h2 := h (l.getD n default) (getD_in (by omega))
    rw [flatL_step f (by omega), sumN_succ, List.length_append]
    omega
theorem encS_le (t : List UInt8) (h : t.length ≤ 2000000) : (encS t).length ≤ 10 + t.length := encS_lenB (by omega)
theorem bytesV_le {v : Vl} (hv : v.Ok) (h : v.text.length ≤ 2000000) : (bytesV v).length ≤ 30 + v.text.length := by
  have e1 := enc_len hv.kind
  have e2 := enc_len hv.num
  have e3 := encS_le v.text h
  unfold bytesV
  simp only [List.length_append]
  omega
theorem encE_wt {w : World} : ∀ {e : Ex}, InE w e → wtE e ≤ 2000000 → (encE (treeE e)).length ≤ 10 * wtE e ∧ okE (treeE e)
  | .nil, h, _ => h.elim
  | .mk op col v A n cap arg, h, hw => by
    rw [InE] at h
    obtain ⟨i1, i2, hv, hn, hc⟩ := h
    rw [wtE] at hw ⊢
    have ha : ∀ j, j < n → InE w (arg j) := fun j hj => by
      obtain ⟨_, _, _, _, hx⟩ := hc (by omega)
      exact (hx j hj).2
    have hwj : ∀ j, j < n → wtE (arg j) ≤ 2000000 := fun j hj => by
      have := sumN_at (fun j => wtE (arg j)) hj
      omega
    have hone : n ≤ sumN n fun j => wtE (arg j) := by
      have : ∀ m, (∀ i, i < m → 1 ≤ wtE (arg i)) → m ≤ sumN m fun j => wtE (arg j) := fun m hm => by
        induction m with
        | zero => omega
        | succ m ih => rw [sumN_succ]; have := hm m (by omega); have := ih fun i hi => hm i (by omega); omega
      refine this n fun i hi => ?_
      have hx := ha i hi
      cases harg : arg i with
      | nil => rw [harg] at hx; exact hx.elim
      | mk => rw [wtE]; omega
    have hs := flat_sum encE (fun j => treeE (arg j)) (fun j => wtE (arg j)) n fun j hj => (encE_wt (ha j hj) (hwj j hj)).1
    have e1 := enc_len i1
    have e2 := enc_len i2
    have e3 := bytesV_le hv (by omega)
    have e4 := enc_len (n := (n : Int)) (by unfold I64; omega)
    refine ⟨?_, ?_⟩
    · rw [encE_tree]
      simp only [List.length_append]
      omega
    · rw [treeE, okE]
      refine ⟨i1, i2, hv.kind, hv.num, by omega, by simp; omega, ?_⟩
      rw [okEs_iff]
      intro x hx
      obtain ⟨j, hj, rfl⟩ := List.mem_map.1 hx
      exact (encE_wt (ha j (List.mem_range.1 hj)) (hwj j (List.mem_range.1 hj))).2
theorem encC_wt {c : Co} (h : c.Ok) (hw : wtC c ≤ 2000000) : (encC c).length ≤ 10 * wtC c ∧ okC c := by
  unfold wtC at hw ⊢
  have e1 := encS_le c.name (by omega)
  have e2 := encS_le c.ref (by omega)
  have e3 := enc_len h.kind
  have e4 := enc_len h.del
  have e5 : ∀ b, (encB b).length ≤ 10 := fun b => by unfold encB; exact enc_len (by unfold I64; split <;> omega)
  have e6 := e5 c.nn
  have e7 := e5 c.un
  refine ⟨?_, h.kind, h.del, by omega, by omega⟩
  unfold encC
  simp only [List.length_append]
  omega
theorem encG_wt {c : Gr} (h : c.Ok) (hw : wtG c ≤ 2000000) : (encG c).length ≤ 10 * wtG c ∧ okG c := by
  unfold wtG at hw ⊢
  have e1 := encS_le c.table (by omega)
  have e3 := enc_len h.role
  have e4 := enc_len h.bits
  refine ⟨?_, h.role, h.bits, by omega⟩
  unfold encG
  simp only [List.length_append]
  omega
theorem sum_mem {α : Type} [Inhabited α] {l : List α} {wt : α → Nat} {n : Nat} (hl : l.length = n) {a : α} (ha : a ∈ l) : wt a ≤ sumN n fun j => wt (l.getD j default) := by
  obtain ⟨j, hj, rfl⟩ := List.getElem_of_mem ha
  have := sumN_at (fun j => wt (l.getD j default)) (show j < n by omega)
  simp only [List.getD_eq_getElem?_getD, List.getElem?_eq_getElem hj, Option.getD_some] at this
  exact this
theorem len_sum {n : Nat} {f : Nat → Nat} (h : ∀ i, i < n → 1 ≤ f i) : n ≤ sumN n f := by
  induction n with
  | zero => omega
  | succ n ih => rw [sumN_succ]; have := h n (by omega); have := ih fun i hi => h i (by omega); omega
theorem wtE_pos {w : World} {e : Ex} (h : InE w e) : 1 ≤ wtE e := by
  cases e with
  | nil => exact h.elim
  | mk => rw [wtE]; omega
theorem encT_wt {w : World} {t : Tb} (h : InT w t) (hw : wtT t ≤ 2000000) : (encT (treeT t)).length ≤ 10 * wtT t ∧ okT (treeT t) := by
  obtain ⟨nm, ow, cA, cn, ccap, cols, eA, en, ecap, chk⟩ := t
  obtain ⟨iow, -, hcm, hem, hC, hE⟩ := h
  unfold wtT at hw ⊢
  simp only at iow hcm hem hC hE hw ⊢
  have hcl := hC.1
  have hin : ∀ j, j < en → InE w (chk j) := fun j hj => by
    obtain ⟨_, _, _, _, hx⟩ := hE (by omega)
    exact (hx j hj).2
  have hcw : ∀ c ∈ cols, wtC c ≤ 2000000 := fun c hc => by
    have := sum_mem (wt := wtC) hcl hc
    omega
  have hew : ∀ j, j < en → wtE (chk j) ≤ 2000000 := fun j hj => by
    have := sumN_at (fun j => wtE (chk j)) hj
    omega
  have s1 := flatL_sum encC cols wtC (fun c hc => (encC_wt (hC.2.1 c hc) (hcw c hc)).1) cn (by omega)
  have s2 := flat_sum encE (fun j => treeE (chk j)) (fun j => wtE (chk j)) en fun j hj => (encE_wt (hin j hj) (hew j hj)).1
  have e1 := encS_le nm (by omega)
  have e2 := enc_len iow
  have n1 := len_sum (n := cn) (f := fun j => wtC (cols.getD j default)) (fun i _ => by unfold wtC; omega)
  have n2 := len_sum (n := en) (f := fun j => wtE (chk j)) (fun i hi => wtE_pos (hin i hi))
  have e3 := enc_len (n := (cn : Int)) (by unfold I64; omega)
  have e4 := enc_len (n := (en : Int)) (by unfold I64; omega)
  refine ⟨?_, ⟨iow, by show nm.length ≤ _; omega, by show cols.length ≤ _; omega, fun c hc => (encC_wt (hC.2.1 c hc) (hcw c hc)).2, ?_, ?_⟩⟩
  · rw [encT_is nm ow cA cn ccap cols eA en ecap chk hcl]
    unfold flC flE
    simp only [List.length_append]
    omega
  · show ((List.range en).map fun j => treeE (chk j)).length ≤ _
    simp; omega
  · intro x hx
    obtain ⟨j, hj, rfl⟩ := List.mem_map.1 hx
    exact (encE_wt (hin j (List.mem_range.1 hj)) (hew j (List.mem_range.1 hj))).2
theorem encSd_wt {w : World} {s : Sc} (h : InS w s) (hw : wtS s ≤ 1048576) : (encSd (treeS s)).length ≤ 10485760 ∧ okS (treeS s) := by
  obtain ⟨ver, tA, tn, tcap, tab, gA, gn, gcap, gs⟩ := s
  obtain ⟨i1, htm, hgm, hT, hG⟩ := h
  unfold wtS at hw
  simp only at i1 htm hgm hT hG hw
  have hgl := hG.1
  have hin : ∀ j, j < tn → InT w (tab j) := fun j hj => by
    obtain ⟨_, _, _, _, hx⟩ := hT (by omega)
    exact (hx j hj).2
  have htw : ∀ j, j < tn → wtT (tab j) ≤ 2000000 := fun j hj => by
    have := sumN_at (fun j => wtT (tab j)) hj
    omega
  have hgw : ∀ c ∈ gs, wtG c ≤ 2000000 := fun c hc => by
    have := sum_mem (wt := wtG) hgl hc
    omega
  have s1 := flatL_sum encG gs wtG (fun c hc => (encG_wt (hG.2.1 c hc) (hgw c hc)).1) gn (by omega)
  have s2 := flat_sum encT (fun j => treeT (tab j)) (fun j => wtT (tab j)) tn fun j hj => (encT_wt (hin j hj) (htw j hj)).1
  have n1 := len_sum (n := gn) (f := fun j => wtG (gs.getD j default)) (fun i _ => by unfold wtG; omega)
  have n2 := len_sum (n := tn) (f := fun j => wtT (tab j)) (fun i hi => by unfold wtT; omega)
  have e1 := enc_len i1
  have e3 := enc_len (n := (tn : Int)) (by unfold I64; omega)
  have e4 := enc_len (n := (gn : Int)) (by unfold I64; omega)
  refine ⟨?_, ⟨i1, ?_, ?_, by show gs.length ≤ _; omega, fun c hc => (encG_wt (hG.2.1 c hc) (hgw c hc)).2⟩⟩
  · rw [encSd_is ver tA tn tcap tab gA gn gcap gs hgl]
    unfold flT flG
    simp only [List.length_append]
    omega
  · show ((List.range tn).map fun j => treeT (tab j)).length ≤ _
    simp; omega
  · intro x hx
    obtain ⟨j, hj, rfl⟩ := List.mem_map.1 hx
    exact (encT_wt (hin j (List.mem_range.1 hj)) (htw j (List.mem_range.1 hj))).2

/-- Rows that are one, by their places. -/
theorem range_eq {α : Type} {n m : Nat} {f g : Nat → α} (h : (List.range n).map f = (List.range m).map g) : n = m ∧ ∀ j, j < n → f j = g j := by
  have hl : n = m := by simpa using congrArg List.length h
  subst hl
  refine ⟨rfl, fun j hj => ?_⟩
  have h1 := congrArg (fun l => l[j]?) h
  simpa [hj] using h1
theorem sim_tree {w w' : World} : ∀ {e e' : Ex}, InE w e → InE w' e' → treeE e = treeE e' → simE e e'
  | .nil, _, h, _, _ => h.elim
  | .mk .., .nil, _, h, _ => h.elim
  | .mk op col v A n cap arg, .mk op' col' v' A' n' cap' arg', h, h', he => by
    rw [treeE, treeE] at he
    injection he with h1 h2 h3 h4
    obtain ⟨hn, hj⟩ := range_eq h4
    rw [InE] at h h'
    obtain ⟨-, -, -, -, hc⟩ := h
    obtain ⟨-, -, -, -, hc'⟩ := h'
    rw [simE]
    refine ⟨h1, h2, h3, hn, fun j hlt => ?_⟩
    obtain ⟨_, _, _, _, hx⟩ := hc (by omega)
    obtain ⟨_, _, _, _, hx'⟩ := hc' (by omega)
    exact sim_tree (hx j hlt).2 (hx' j (by omega)).2 (hj j hlt)
theorem simT_tree {w w' : World} {t t' : Tb} (h : InT w t) (h' : InT w' t') (he : treeT t = treeT t') : simT t t' := by
  unfold treeT at he
  injection he with h1 h2 h3 h4
  obtain ⟨hn, hj⟩ := range_eq h4
  refine ⟨h1, h2, ?_, h3, hn, fun j hlt => ?_⟩
  · rw [← h.cols.1, ← h'.cols.1, h3]
  · obtain ⟨_, _, _, _, hx⟩ := h.chk (by omega)
    obtain ⟨_, _, _, _, hx'⟩ := h'.chk (by omega)
    exact sim_tree (hx j hlt).2 (hx' j (by omega)).2 (hj j hlt)
theorem simS_tree {w w' : World} {s s' : Sc} (h : InS w s) (h' : InS w' s') (he : treeS s = treeS s') : simS s s' := by
  unfold treeS at he
  injection he with h1 h2 h3
  obtain ⟨hn, hj⟩ := range_eq h2
  refine ⟨h1, hn, fun j hlt => ?_, ?_, h3⟩
  · obtain ⟨_, _, _, _, hx⟩ := h.tabs (by omega)
    obtain ⟨_, _, _, _, hx'⟩ := h'.tabs (by omega)
    exact simT_tree (hx j hlt).2 (hx' j (by omega)).2 (hj j hlt)
  · rw [← h.grants.1, ← h'.grants.1, h3]
end Go.Proofs.Ytlkeagfmlcbogaa
