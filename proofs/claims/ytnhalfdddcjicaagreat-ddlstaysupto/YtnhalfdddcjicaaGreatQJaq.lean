/- The reference's fits, Fits, and Same of two schemas that are zero. -/
/- Plain mathematics: how long a schema's bytes are; schemas whose trees are one are alike. -/
import Derived.Test.YtnhalfdddcjicaaGreatQSsB
namespace Go.Proofs.YtnhalfdddcjicaaGreat
open Go.RowKit

theorem all_tree {n : Nat} {f : Nat → Ex} {p : Et → Bool} : (((List.range n).map fun j => treeE (f j)).all p) = true ↔ ∀ j, j < n → p (treeE (f j)) = true := by
  simp [List.all_eq_true]
theorem fitsE_zero (op col : Int) (v : Vl) (A : Option Addr) (n cap : Nat) (arg : Nat → Ex) : fitsE 0 (treeE (.mk op col v A n cap arg)) = (goodV v && decide (n ≤ 0)) := by
  rw [treeE, fitsE]; simp
theorem fitsE_succ (lv : Nat) (op col : Int) (v : Vl) (A : Option Addr) (n cap : Nat) (arg : Nat → Ex) : fitsE (lv + 1) (treeE (.mk op col v A n cap arg)) = (goodV v && (decide (n ≤ 2) && ((List.range n).map fun j => treeE (arg j)).all (fitsE lv))) := by
  rw [treeE, fitsE]; simp
theorem fits_bad (lv : Nat) (op col : Int) (v : Vl) (A : Option Addr) (n cap : Nat) (arg : Nat → Ex) (h : goodV v = false ∨ 2 < n ∨ (lv = 0 ∧ 0 < n)) : fitsE lv (treeE (.mk op col v A n cap arg)) = false := by
  cases lv with
  | zero =>
    rw [fitsE_zero]
    rcases h with h | h | h
    · rw [h]; rfl
    · rw [decide_eq_false (by omega)]; simp
    · rw [decide_eq_false (by omega)]; simp
  | succ lv =>
    rw [fitsE_succ]
    rcases h with h | h | h
    · rw [h]; rfl
    · rw [decide_eq_false (by omega : ¬ n ≤ 2)]; simp
    · omega
theorem fits_true (lv : Nat) (op col : Int) (v : Vl) (A : Option Addr) (n cap : Nat) (arg : Nat → Ex) (h : goodV v = true) (h2 : n ≤ 2) (h0 : lv = 0 → n = 0) (ha : ∀ j, j < n → fitsE (lv - 1) (treeE (arg j)) = true) : fitsE lv (treeE (.mk op col v A n cap arg)) = true := by
  cases lv with
  | zero => rw [fitsE_zero, h, h0 rfl]; rfl
  | succ lv =>
    rw [Nat.add_sub_cancel] at ha
    rw [fitsE_succ, h, decide_eq_true h2, all_tree.2 ha]; rfl
theorem fits_some (lv : Nat) (op col : Int) (v : Vl) (A : Option Addr) (n cap : Nat) (arg : Nat → Ex) {j : Nat} (hj : j < n) (ha : fitsE (lv - 1) (treeE (arg j)) = false) : fitsE lv (treeE (.mk op col v A n cap arg)) = false := by
  cases lv with
  | zero => exact fits_bad 0 op col v A n cap arg (.inr (.inr ⟨rfl, by omega⟩))
  | succ lv =>
    rw [Nat.add_sub_cancel] at ha
    rw [fitsE_succ]
    have : ((List.range n).map fun j => treeE (arg j)).all (fitsE lv) = false := by
      cases e : ((List.range n).map fun j => treeE (arg j)).all (fitsE lv) with
      | false => rfl
      | true => rw [all_tree] at e; rw [e j hj] at ha; cases ha
    rw [this]; simp

theorem fitsT_is (t : Tb) : fitsT (treeT t) = (decide (t.cols.length ≤ 6) && (decide (t.en ≤ 4) && ((List.range t.en).map fun j => treeE (t.chk j)).all (fitsE 8))) := by
  unfold fitsT treeT
  simp
theorem fitsT_bad {t : Tb} (h : 6 < t.cols.length ∨ 4 < t.en) : fitsT (treeT t) = false := by
  rw [fitsT_is]
  rcases h with h | h
  · rw [decide_eq_false (by omega)]; rfl
  · rw [decide_eq_false (by omega : ¬ t.en ≤ 4)]; simp
theorem fitsT_true {t : Tb} (h : t.cols.length ≤ 6) (h2 : t.en ≤ 4) (ha : ∀ j, j < t.en → fitsE 8 (treeE (t.chk j)) = true) : fitsT (treeT t) = true := by
  rw [fitsT_is, decide_eq_true h, decide_eq_true h2, all_tree.2 ha]; rfl
theorem fitsT_some {t : Tb} {j : Nat} (hj : j < t.en) (ha : fitsE 8 (treeE (t.chk j)) = false) : fitsT (treeT t) = false := by
  rw [fitsT_is]
  have : ((List.range t.en).map fun j => treeE (t.chk j)).all (fitsE 8) = false := by
    cases e : ((List.range t.en).map fun j => treeE (t.chk j)).all (fitsE 8) with
    | false => rfl
    | true => rw [all_tree] at e; rw [e j hj] at ha; cases ha
  rw [this]; simp
theorem all_treeT {n : Nat} {f : Nat → Tb} {p : Td → Bool} : (((List.range n).map fun j => treeT (f j)).all p) = true ↔ ∀ j, j < n → p (treeT (f j)) = true := by
  simp [List.all_eq_true]
theorem fitsS_is (s : Sc) : fitsS (treeS s) = (decide (s.tn ≤ 12) && (decide (s.grants.length ≤ 64) && ((List.range s.tn).map fun j => treeT (s.tab j)).all fitsT)) := by
  unfold fitsS treeS
  simp
theorem fitsS_bad {s : Sc} (h : 12 < s.tn ∨ 64 < s.grants.length) : fitsS (treeS s) = false := by
  rw [fitsS_is]
  rcases h with h | h
  · rw [decide_eq_false (by omega)]; rfl
  · rw [decide_eq_false (by omega : ¬ s.grants.length ≤ 64)]; simp
theorem fitsS_true {s : Sc} (h : s.tn ≤ 12) (h2 : s.grants.length ≤ 64) (ha : ∀ j, j < s.tn → fitsT (treeT (s.tab j)) = true) : fitsS (treeS s) = true := by
  rw [fitsS_is, decide_eq_true h, decide_eq_true h2, all_treeT.2 ha]; rfl
theorem fitsS_some {s : Sc} {j : Nat} (hj : j < s.tn) (ha : fitsT (treeT (s.tab j)) = false) : fitsS (treeS s) = false := by
  rw [fitsS_is]
  have : ((List.range s.tn).map fun j => treeT (s.tab j)).all fitsT = false := by
    cases e : ((List.range s.tn).map fun j => treeT (s.tab j)).all fitsT with
    | false => rfl
    | true => rw [all_treeT] at e; rw [e j hj] at ha; cases ha
  rw [this]; simp

structure simS (a b : Sc) : Prop where
  ver : a.ver = b.ver
  tn : a.tn = b.tn
  tabs : ∀ j, j < a.tn → simT (a.tab j) (b.tab j)
  gn : a.gn = b.gn
  grants : a.grants = b.grants

set_option maxRecDepth 100000 in
set_option maxHeartbeats 3200000 in
theorem sameS_any (a b : Sc) (w : World) (ha : InS w a) (hb : InS w b) (hs : simS a b) : Calls Tryz.prog 12 #[a.val, b.val] w fun e w' => e = .returned (.bool true) ∧ Below w.heap.size w w' := by
  obtain ⟨ver, tA, tn, tcap, tab, gA, gn, gcap, gs⟩ := a
  obtain ⟨ver', tA', tn', tcap', tab', gA', gn', gcap', gs'⟩ := b
  obtain ⟨h1, h2, hsim, h4, h5⟩ := hs
  simp only at h1 h2 h4 h5 hsim
  subst h1 h2 h4 h5
  have hrt := ha.tabs
  have hrt' := hb.tabs
  have hrg := ha.grants
  have hrg' := hb.grants
  have hn := ha.tmax
  have hgn := ha.gmax
  unfold maxLen at hn hgn
  simp only at hrt hrt' hrg hrg' hn hgn
  clear ha hb
  simp only [Sc.val]
  obtain ⟨W, hW⟩ : ∃ W, (w.alloc (.cells #[.int .i64 ver, .slice tA tn tcap, .slice gA gn gcap] 25)).alloc (.cells #[.int .i64 ver, .slice tA' tn tcap', .slice gA' gn gcap'] 25) = W := ⟨_, rfl⟩
  have b3 : Below w.heap.size w W := by
    rw [← hW]
    have b0 := below_box w (.cells #[.int .i64 ver, .slice tA tn tcap, .slice gA gn gcap] 25)
    exact b0.alloc b0.size _
  have aX : At W w.heap.size 25 #[.int .i64 ver, .slice tA tn tcap, .slice gA gn gcap] := by
    rw [← hW]; exact (At.fresh _ _ _).alloc _
  have aY : At W (w.heap.size + 1) 25 #[.int .i64 ver, .slice tA' tn tcap', .slice gA' gn gcap'] := by
    rw [← hW]
    have := At.fresh (w.alloc (.cells #[.int .i64 ver, .slice tA tn tcap, .slice gA gn gcap] 25)) 25 #[.int .i64 ver, .slice tA' tn tcap', .slice gA' gn gcap']
    simp only [World.size_alloc] at this
    exact this
  have hWc := Lib.hid hW
  clear hW
  go_enter Tryz.func12, Tryz.ntmps12
  go_wp2_with fail
  rw [hWc.out]
  clear hWc
  go_loopw [33] (fun i wr => ∃ k : Nat, k ≤ tn ∧ i = .int .i64 k ∧ Below W.heap.size W wr) (fun i _ => tn - (intOf i).toNat)
  case atStart => exact ⟨0, by omega, rfl, Below.refl _ _⟩
  case round =>
    obtain ⟨k, hk, rfl, hbr⟩ := hrel
    have hbw := below_in b3 hbr
    by_cases hlt : k < tn
    · obtain ⟨b, off, rfl, hbl, hcell⟩ := hrt (by omega)
      obtain ⟨b', off', rfl, hbl', hcell'⟩ := hrt' (by omega)
      obtain ⟨x0, x1, x2, x3⟩ := (hcell k hlt).1.keep fun i => hbw.cell (p := ⟨b, i, none⟩) hbl
      obtain ⟨y0, y1, y2, y3⟩ := (hcell' k hlt).1.keep fun i => hbw.cell (p := ⟨b', i, none⟩) hbl'
      have hi := (hcell k hlt).2.below hbw
      have hi' := (hcell' k hlt).2.below hbw
      have hc := fun w' (b' : Below wr.heap.size wr w') => sameT_any (tab k) (tab' k) w' (hi.below b') (hi'.below b') (hsim k hlt)
      have a5 : wr.cell? ⟨w.heap.size, 1, none⟩ = some (.slice (some ⟨b, off, none⟩) tn tcap) := (aX.below hbr aX.lt).cell 1
      have a5' : wr.cell? ⟨w.heap.size + 1, 1, none⟩ = some (.slice (some ⟨b', off', none⟩) tn tcap') := (aY.below hbr aY.lt).cell 1
      have hki : (k : Int) < (tn : Int) := by omega
      unfold Tb.val at hc
      clear hcell hcell' hi hi' hsim hrg hrg'
      go_wp2_with fail
      go_still_tail 10, (by kernel_rfl)
      change wpList _ _ _ _ _ wr.drew
      have hd : Below wr.heap.size wr wr.drew := (Below.refl _ _).drew
      go_wp2_with fail
      refine (hc _ hd).mono ?_
      rintro e w2 ⟨rfl, b2⟩
      go_wp2_with fail
      exact ⟨⟨k + 1, by omega, by go_num, below_in hbr (below_in hd b2)⟩, by simp [intOf]; omega⟩
    · have aX2 := aX.below hbr aX.lt
      have aY2 := aY.below hbr aY.lt
      have a3 : wr.cell? ⟨w.heap.size, 2, none⟩ = some (.slice gA gn gcap) := aX2.cell 2
      clear hrt hrt' hsim
      go_wp2_with fail
      go_loopw [52] (fun i wx => ∃ k : Nat, k ≤ gn ∧ i = .int .i64 k ∧ Below wr.heap.size wr wx) (fun i _ => gn - (intOf i).toNat)
      case atStart => exact ⟨0, by omega, rfl, Below.refl _ _⟩
      case round =>
        obtain ⟨k2, hk2, rfl, hbx⟩ := hrel
        have hbw2 := below_in hbw hbx
        by_cases hlt2 : k2 < gn
        · obtain ⟨b, off, rfl, hbl, hcell⟩ := hrg.2.2 (by omega)
          obtain ⟨b', off', rfl, hbl', hcell'⟩ := hrg'.2.2 (by omega)
          have hx := (hcell k2 hlt2).keep fun i => hbw2.cell (p := ⟨b, i, none⟩) hbl
          have hy := (hcell' k2 hlt2).keep fun i => hbw2.cell (p := ⟨b', i, none⟩) hbl'
          generalize gs.getD k2 default = c at *
          obtain ⟨x0, x1, x2⟩ := hx
          obtain ⟨y0, y1, y2⟩ := hy
          have a5 : wr.cell? ⟨w.heap.size, 2, none⟩ = some (.slice (some ⟨b, off, none⟩) gn gcap) := (aX2.below hbx aX2.lt).cell 2
          have a5' : wr.cell? ⟨w.heap.size + 1, 2, none⟩ = some (.slice (some ⟨b', off', none⟩) gn gcap') := (aY2.below hbx aY2.lt).cell 2
          have hki : (k2 : Int) < (gn : Int) := by omega
          clear hcell hcell'
          go_wp2_with fail
          go_quiet (fail)
          go_wp2_with fail
          exact ⟨⟨k2 + 1, by omega, by go_num, below_nq hbx _⟩, by simp [intOf]; omega⟩
        · go_wp2_with fail
          go_ret
          exact ⟨rfl, hbw2⟩
theorem simS_zero : simS noS noS := ⟨rfl, rfl, fun j hj => absurd hj (Nat.not_lt_zero j), rfl, rfl⟩
theorem sameZero_any (w : World) : Calls Tryz.prog 12 #[.agg #[.int .i64 0, .slice none 0 0, .slice none 0 0], .agg #[.int .i64 0, .slice none 0 0, .slice none 0 0]] w fun e w' => e = .returned (.bool true) ∧ Below w.heap.size w w' :=
  sameS_any noS noS w (in_noS w) (in_noS w) simS_zero
end Go.Proofs.YtnhalfdddcjicaaGreat

namespace Go.Proofs.YtnhalfdddcjicaaGreat

theorem flat_sum {α : Type} (f : α → List UInt8) (g : Nat → α) (wt : Nat → Nat) : ∀ n, (∀ j, j < n → (f (g j)).length ≤ 10 * wt j) → (((List.range n).map g).map f).flatten.length ≤ 10 * sumN n wt
  | 0, _ => by simp
  | n + 1, h => by
    have h1 := flat_sum f g wt n fun j hj => h j (by omega)
    have h2 := h n (by omega)
    rw [flat_step, sumN_succ, List.length_append]
    omega
theorem flatL_sum {α : Type} [Inhabited α] (f : α → List UInt8) (l : List α) (wt : α → Nat) (h : ∀ a ∈ l, (f a).length ≤ 10 * wt a) : ∀ n, n ≤ l.length → ((l.take n).map f).flatten.length ≤ 10 * sumN n fun j => wt (l.getD j default)
  | 0, _ => by simp
  | n + 1, hn => by
    have h1 := flatL_sum f l wt h n (by omega)
    have h2 := h (l.getD n default) (getD_in (by omega))
    rw [flatL_step f (by omega), sumN_succ, List.length_append]
    omega
theorem encS_le (t : List UInt8) (h : t.length ≤ 2000000) : (encS t).length ≤ 10 + t.length := encS_lenB (by omega)
theorem bytesV_le {v : Vl} (hv : v.Ok) (h : v.text.length ≤ 2000000) : (bytesV v).length ≤ 30 + v.text.length := by
  have e1 := enc_len hv.kind
  have e2 := enc_len hv.num
  have e3 := encS_le v.text h
  unfold bytesV
  simp only [List.length_append]
  omega
theorem encE_wt {w : World} : ∀ {e : Ex}, InE w e → wtE e ≤ 2000000 → (encE (treeE e)).length ≤ 10 * wtE e ∧ okE (treeE e)
  | .nil, h, _ => h.elim
  | .mk op col v A n cap arg, h, hw => by
    rw [InE] at h
    obtain ⟨i1, i2, hv, hn, hc⟩ := h
    rw [wtE] at hw ⊢
    have ha : ∀ j, j < n → InE w (arg j) := fun j hj => by
      obtain ⟨_, _, _, _, hx⟩ := hc (by omega)
      exact (hx j hj).2
    have hwj : ∀ j, j < n → wtE (arg j) ≤ 2000000 := fun j hj => by
      have := sumN_at (fun j => wtE (arg j)) hj
      omega
    have hone : n ≤ sumN n fun j => wtE (arg j) := by
      have : ∀ m, (∀ i, i < m → 1 ≤ wtE (arg i)) → m ≤ sumN m fun j => wtE (arg j) := fun m hm => by
        induction m with
        | zero => omega
        | succ m ih => rw [sumN_succ]; have := hm m (by omega); have := ih fun i hi => hm i (by omega); omega
      refine this n fun i hi => ?_
      have hx := ha i hi
      cases harg : arg i with
      | nil => rw [harg] at hx; exact hx.elim
      | mk => rw [wtE]; omega
    have hs := flat_sum encE (fun j => treeE (arg j)) (fun j => wtE (arg j)) n fun j hj => (encE_wt (ha j hj) (hwj j hj)).1
    have e1 := enc_len i1
    have e2 := enc_len i2
    have e3 := bytesV_le hv (by omega)
    have e4 := enc_len (n := (n : Int)) (by unfold I64; omega)
    refine ⟨?_, ?_⟩
    · rw [encE_tree]
      simp only [List.length_append]
      omega
    · rw [treeE, okE]
      refine ⟨i1, i2, hv.kind, hv.num, by omega, by simp; omega, ?_⟩
      rw [okEs_iff]
      intro x hx
      obtain ⟨j, hj, rfl⟩ := List.mem_map.1 hx
      exact (encE_wt (ha j (List.mem_range.1 hj)) (hwj j (List.mem_range.1 hj))).2
theorem encC_wt {c : Co} (h : c.Ok) (hw : wtC c ≤ 2000000) : (encC c).length ≤ 10 * wtC c ∧ okC c := by
  unfold wtC at hw ⊢
  have e1 := encS_le c.name (by omega)
  have e2 := encS_le c.ref (by omega)
  have e3 := enc_len h.kind
  have e4 := enc_len h.del
  have e5 : ∀ b, (encB b).length ≤ 10 := fun b => by unfold encB; exact enc_len (by unfold I64; split <;> omega)
  have e6 := e5 c.nn
  have e7 := e5 c.un
  refine ⟨?_, h.kind, h.del, by omega, by omega⟩
  unfold encC
  simp only [List.length_append]
  omega
theorem encG_wt {c : Gr} (h : c.Ok) (hw : wtG c ≤ 2000000) : (encG c).length ≤ 10 * wtG c ∧ okG c := by
  unfold wtG at hw ⊢
  have e1 := encS_le c.table (by omega)
  have e3 := enc_len h.role
  have e4 := enc_len h.bits
  refine ⟨?_, h.role, h.bits, by omega⟩
  unfold encG
  simp only [List.length_append]
  omega
theorem sum_mem {α : Type} [Inhabited α] {l : List α} {wt : α → Nat} {n : Nat} (hl : l.length = n) {a : α} (ha : a ∈ l) : wt a ≤ sumN n fun j => wt (l.getD j default) := by
  obtain ⟨j, hj, rfl⟩ := List.getElem_of_mem ha
  have := sumN_at (fun j => wt (l.getD j default)) (show j < n by omega)
  simp only [List.getD_eq_getElem?_getD, List.getElem?_eq_getElem hj, Option.getD_some] at this
  exact this
theorem len_sum {n : Nat} {f : Nat → Nat} (h : ∀ i, i < n → 1 ≤ f i) : n ≤ sumN n f := by
  induction n with
  | zero => omega
  | succ n ih => rw [sumN_succ]; have := h n (by omega); have := ih fun i hi => h i (by omega); omega
theorem wtE_pos {w : World} {e : Ex} (h : InE w e) : 1 ≤ wtE e := by
  cases e with
  | nil => exact h.elim
  | mk => rw [wtE]; omega
theorem encT_wt {w : World} {t : Tb} (h : InT w t) (hw : wtT t ≤ 2000000) : (encT (treeT t)).length ≤ 10 * wtT t ∧ okT (treeT t) := by
  obtain ⟨nm, ow, cA, cn, ccap, cols, eA, en, ecap, chk⟩ := t
  obtain ⟨iow, -, hcm, hem, hC, hE⟩ := h
  unfold wtT at hw ⊢
  simp only at iow hcm hem hC hE hw ⊢
  have hcl := hC.1
  have hin : ∀ j, j < en → InE w (chk j) := fun j hj => by
    obtain ⟨_, _, _, _, hx⟩ := hE (by omega)
    exact (hx j hj).2
  have hcw : ∀ c ∈ cols, wtC c ≤ 2000000 := fun c hc => by
    have := sum_mem (wt := wtC) hcl hc
    omega
  have hew : ∀ j, j < en → wtE (chk j) ≤ 2000000 := fun j hj => by
    have := sumN_at (fun j => wtE (chk j)) hj
    omega
  have s1 := flatL_sum encC cols wtC (fun c hc => (encC_wt (hC.2.1 c hc) (hcw c hc)).1) cn (by omega)
  have s2 := flat_sum encE (fun j => treeE (chk j)) (fun j => wtE (chk j)) en fun j hj => (encE_wt (hin j hj) (hew j hj)).1
  have e1 := encS_le nm (by omega)
  have e2 := enc_len iow
  have n1 := len_sum (n := cn) (f := fun j => wtC (cols.getD j default)) (fun i _ => by unfold wtC; omega)
  have n2 := len_sum (n := en) (f := fun j => wtE (chk j)) (fun i hi => wtE_pos (hin i hi))
  have e3 := enc_len (n := (cn : Int)) (by unfold I64; omega)
  have e4 := enc_len (n := (en : Int)) (by unfold I64; omega)
  refine ⟨?_, ⟨iow, by show nm.length ≤ _; omega, by show cols.length ≤ _; omega, fun c hc => (encC_wt (hC.2.1 c hc) (hcw c hc)).2, ?_, ?_⟩⟩
  · rw [encT_is nm ow cA cn ccap cols eA en ecap chk hcl]
    unfold flC flE
    simp only [List.length_append]
    omega
  · show ((List.range en).map fun j => treeE (chk j)).length ≤ _
    simp; omega
  · intro x hx
    obtain ⟨j, hj, rfl⟩ := List.mem_map.1 hx
    exact (encE_wt (hin j (List.mem_range.1 hj)) (hew j (List.mem_range.1 hj))).2
theorem encSd_wt {w : World} {s : Sc} (h : InS w s) (hw : wtS s ≤ 1048576) : (encSd (treeS s)).length ≤ 10485760 ∧ okS (treeS s) := by
  obtain ⟨ver, tA, tn, tcap, tab, gA, gn, gcap, gs⟩ := s
  obtain ⟨i1, htm, hgm, hT, hG⟩ := h
  unfold wtS at hw
  simp only at i1 htm hgm hT hG hw
  have hgl := hG.1
  have hin : ∀ j, j < tn → InT w (tab j) := fun j hj => by
    obtain ⟨_, _, _, _, hx⟩ := hT (by omega)
    exact (hx j hj).2
  have htw : ∀ j, j < tn → wtT (tab j) ≤ 2000000 := fun j hj => by
    have := sumN_at (fun j => wtT (tab j)) hj
    omega
  have hgw : ∀ c ∈ gs, wtG c ≤ 2000000 := fun c hc => by
    have := sum_mem (wt := wtG) hgl hc
    omega
  have s1 := flatL_sum encG gs wtG (fun c hc => (encG_wt (hG.2.1 c hc) (hgw c hc)).1) gn (by omega)
  have s2 := flat_sum encT (fun j => treeT (tab j)) (fun j => wtT (tab j)) tn fun j hj => (encT_wt (hin j hj) (htw j hj)).1
  have n1 := len_sum (n := gn) (f := fun j => wtG (gs.getD j default)) (fun i _ => by unfold wtG; omega)
  have n2 := len_sum (n := tn) (f := fun j => wtT (tab j)) (fun i hi => by unfold wtT; omega)
  have e1 := enc_len i1
  have e3 := enc_len (n := (tn : Int)) (by unfold I64; omega)
  have e4 := enc_len (n := (gn : Int)) (by unfold I64; omega)
  refine ⟨?_, ⟨i1, ?_, ?_, by show gs.length ≤ _; omega, fun c hc => (encG_wt (hG.2.1 c hc) (hgw c hc)).2⟩⟩
  · rw [encSd_is ver tA tn tcap tab gA gn gcap gs hgl]
    unfold flT flG
    simp only [List.length_append]
    omega
  · show ((List.range tn).map fun j => treeT (tab j)).length ≤ _
    simp; omega
  · intro x hx
    obtain ⟨j, hj, rfl⟩ := List.mem_map.1 hx
    exact (encT_wt (hin j (List.mem_range.1 hj)) (htw j (List.mem_range.1 hj))).2

/-- Rows that are one, by their places. -/
theorem range_eq {α : Type} {n m : Nat} {f g : Nat → α} (h : (List.range n).map f = (List.range m).map g) : n = m ∧ ∀ j, j < n → f j = g j := by
  have hl : n = m := by simpa using congrArg List.length h
  subst hl
  refine ⟨rfl, fun j hj => ?_⟩
  have h1 := congrArg (fun l => l[j]?) h
  simpa [hj] using h1
theorem sim_tree {w w' : World} : ∀ {e e' : Ex}, InE w e → InE w' e' → treeE e = treeE e' → simE e e'
  | .nil, _, h, _, _ => h.elim
  | .mk .., .nil, _, h, _ => h.elim
  | .mk op col v A n cap arg, .mk op' col' v' A' n' cap' arg', h, h', he => by
    rw [treeE, treeE] at he
    injection he with h1 h2 h3 h4
    obtain ⟨hn, hj⟩ := range_eq h4
    rw [InE] at h h'
    obtain ⟨-, -, -, -, hc⟩ := h
    obtain ⟨-, -, -, -, hc'⟩ := h'
    rw [simE]
    refine ⟨h1, h2, h3, hn, fun j hlt => ?_⟩
    obtain ⟨_, _, _, _, hx⟩ := hc (by omega)
    obtain ⟨_, _, _, _, hx'⟩ := hc' (by omega)
    exact sim_tree (hx j hlt).2 (hx' j (by omega)).2 (hj j hlt)
theorem simT_tree {w w' : World} {t t' : Tb} (h : InT w t) (h' : InT w' t') (he : treeT t = treeT t') : simT t t' := by
  unfold treeT at he
  injection he with h1 h2 h3 h4
  obtain ⟨hn, hj⟩ := range_eq h4
  refine ⟨h1, h2, ?_, h3, hn, fun j hlt => ?_⟩
  · rw [← h.cols.1, ← h'.cols.1, h3]
  · obtain ⟨_, _, _, _, hx⟩ := h.chk (by omega)
    obtain ⟨_, _, _, _, hx'⟩ := h'.chk (by omega)
    exact sim_tree (hx j hlt).2 (hx' j (by omega)).2 (hj j hlt)
theorem simS_tree {w w' : World} {s s' : Sc} (h : InS w s) (h' : InS w' s') (he : treeS s = treeS s') : simS s s' := by
  unfold treeS at he
  injection he with h1 h2 h3
  obtain ⟨hn, hj⟩ := range_eq h2
  refine ⟨h1, hn, fun j hlt => ?_, ?_, h3⟩
  · obtain ⟨_, _, _, _, hx⟩ := h.tabs (by omega)
    obtain ⟨_, _, _, _, hx'⟩ := h'.tabs (by omega)
    exact simT_tree (hx j hlt).2 (hx' j (by omega)).2 (hj j hlt)
  · rw [← h.grants.1, ← h'.grants.1, h3]
end Go.Proofs.YtnhalfdddcjicaaGreat
