/- What the laws about ddl begin with: Great, its bound; alive; great. -/
/- How long what a statement makes is when written. -/
import Derived.Test.YtnhalfdddcjicaaGreatQJbd
import Derived.Test.YtnhalfdddcjicaaGreatQJam
import Derived.Test.YtnhalfdddcjicaaGreatQJak
namespace Go.Proofs.YtnhalfdddcjicaaGreat
open Go.RowKit

theorem le_sumN {f : Nat → Nat} (h : ∀ i, 1 ≤ f i) : ∀ n, n ≤ sumN n f
  | 0 => Nat.zero_le _
  | n + 1 => by rw [sumN_succ]; have := le_sumN h n; have := h n; omega
theorem tn_wt (s : Sc) : s.tn + s.gn ≤ wtS s := by
  have h1 := le_sumN (f := fun j => wtT (s.tab j)) (fun i => by unfold wtT; omega) s.tn
  have h2 := le_sumN (f := fun j => wtG (s.grants.getD j default)) (fun i => by unfold wtG; omega) s.gn
  unfold wtS
  omega
set_option maxRecDepth 100000 in
set_option maxHeartbeats 3200000 in
theorem sgreatB_any (s : Sc) (w : World) (hs : InS w s) (hw : wtS s ≤ 1048576) (hn : 200 < s.tn + s.gn) : Calls Tryz.prog 19 #[s.val] w fun e w' => e = .returned (.bool true) ∧ Below w.heap.size w w' := by
  have b0 := below_box w (.cells #[.int .i64 s.ver, .slice s.tA s.tn s.tcap, .slice s.gA s.gn s.gcap] 25)
  have htm := hs.tmax
  have hgm := hs.gmax
  unfold maxLen at htm hgm
  have htw := tn_wt s
  clear hs
  obtain ⟨ver, tA, tn, tcap, tab, gA, gn, gcap, gs⟩ := s
  unfold Sc.val
  simp only at *
  have h1 : IntKind.i64.wrap ((tn : Int) + (gn : Int)) = (tn : Int) + (gn : Int) := by rw [IntKind.wrap_i64]; omega
  have h2 : (200 : Int) < (tn : Int) + (gn : Int) := by omega
  go_enter Tryz.func19, Tryz.ntmps19
  go_wp2_with fail
  go_ret
  exact ⟨rfl, b0⟩
theorem sgreatC_any (s : Sc) (w : World) (hs : InS w s) (hw : wtS s ≤ 1048576) : Calls Tryz.prog 19 #[s.val] w fun e w' => (∃ b : Bool, e = .returned (.bool b) ∧ (b = false → s.tn + s.gn ≤ 200)) ∧ Below w.heap.size w w' := by
  by_cases h : 200 < s.tn + s.gn
  · exact (sgreatB_any s w hs hw h).mono fun e w' ⟨a, b⟩ => ⟨⟨true, a, fun h => by cases h⟩, b⟩
  · exact (sgreat_any s w hs).mono fun e w' ⟨⟨x, a⟩, b⟩ => ⟨⟨x, a, fun _ => by omega⟩, b⟩

/-- 'with(t)': a schema of that table alone. -/
def soloS (t : Tb) (g : Nat) : Sc := ⟨0, some ⟨g, 0, none⟩, 1, 1, fun _ => t, none, 0, 0, []⟩
theorem in_solo {w : World} {t : Tb} {g : Nat} (ht : InT w t) (h : At w g 32 #[.string ⟨t.name.toArray⟩, .int .i64 t.owner, .slice t.cA t.cn t.ccap, .slice t.eA t.en t.ecap]) : InS w (soloS t g) := by
  refine ⟨by show I64 0; unfold I64; decide, by show 1 ≤ maxLen; unfold maxLen; decide, by show 0 ≤ maxLen; unfold maxLen; decide, fun _ => ⟨g, 0, rfl, h.lt, fun j hj => ?_⟩, rfl, (fun c hc => by cases hc), fun h0 => absurd (show 0 < 0 from h0) (by decide)⟩
  obtain rfl : j = 0 := by have : j < 1 := hj; omega
  obtain ⟨c0, c1, c2, c3, -⟩ := h.four
  exact ⟨⟨c0, c1, c2, c3⟩, ht⟩
def stAt (k : Int) (t : List UInt8) (d : Tb) (r b : Int) : St := ⟨k, t, ⟨0, 0, []⟩, ⟨0, 0, []⟩, none, 0, 0, [], ⟨0, 0, []⟩, d, r, b⟩
theorem sorted_noS : SortedG noS.grants := by unfold noS SortedG; simp
theorem alive_drop {er : Int} {o : Sc} (h : AppF noS 0 (stAt 7 [97] default 0 0) er o) : er = 8 := by
  have h2 : AppF noS 0 (stAt 7 [97] default 0 0) 8 noS := ⟨8, ⟨0, [], []⟩, .inr ⟨by decide, .inr (.inr (.inl ⟨rfl, .inl ⟨.inl ⟨rfl, rfl⟩, by decide⟩, fun h => absurd h (by decide)⟩))⟩, .inl ⟨by decide, rfl, rfl⟩⟩
  exact (h.one sorted_noS h2).1
theorem alive_make (g : Nat) {er : Int} {o : Sc} (h : AppF noS 3 (stAt 6 [] (idT g) 0 0) er o) : er = 0 ∧ o.ver = 1 ∧ o.tn = 1 ∧ (o.tab 0).owner = 3 := by
  have hX : AppT noS 3 (stAt 6 [] (idT g) 0 0) 0 ⟨1, [⟨[97], 3, [idC], []⟩], []⟩ := by
    refine .inr ⟨by decide, .inr (.inl ⟨rfl, .inr ⟨rfl, .inr ⟨?_, .inr ⟨?_, .inr ⟨by decide, rfl⟩⟩⟩⟩, fun _ => rfl⟩)⟩
    · rfl
    · intro c hc
      obtain rfl : c = idC := by simpa [stAt, idT] using hc
      exact fun h => absurd rfl h
  obtain ⟨e0, X, h1, h2⟩ := h
  obtain ⟨k1, k2⟩ := h1.one sorted_noS hX
  subst k1
  have k3 := k2 rfl
  subst k3
  have hl : (encSd ⟨1, [⟨[97], 3, [idC], []⟩], []⟩).length ≤ 8192 := by decide +kernel
  rcases h2 with ⟨a, -⟩ | ⟨-, a, -⟩ | ⟨-, -, rfl, a⟩
  · exact absurd rfl a
  · omega
  · refine ⟨rfl, congrArg Sd.ver a, ?_⟩
    have ht := congrArg Sd.tabs a
    unfold treeS at ht
    simp only at ht
    have hn : o.tn = 1 := by simpa using congrArg List.length ht
    rw [hn] at ht
    simp [treeT] at ht
    exact ⟨hn, ht.2.1⟩

theorem in_stAt {w : World} (k : Int) (t : List UInt8) {d : Tb} (r b : Int) (hk : I64 k) (ht : t.length ≤ maxLen) (hd : InT w d) (hr : I64 r) (hb : I64 b) : InSt w (stAt k t d r b) := ⟨hk, ht, hd, hr, hb⟩
theorem in_dflt (w : World) : InT w default := ⟨by show I64 0; unfold I64; decide, by show 0 ≤ maxLen; unfold maxLen; decide, by show 0 ≤ maxLen; unfold maxLen; decide, by show 0 ≤ maxLen; unfold maxLen; decide, ⟨rfl, (fun c hc => by cases hc), fun h => absurd (show 0 < 0 from h) (by decide)⟩, fun h => absurd (show 0 < 0 from h) (by decide)⟩

set_option maxRecDepth 100000 in
set_option maxHeartbeats 3200000 in
theorem dalive_any (w : World) : Calls Tryz.prog 7 #[] w fun e w' => e = .returned (.bool true) ∧ Below w.heap.size w w' := by
  have h1 := dapply_any noS 0 (stAt 7 [97] default 0 0) w (in_noS w) (in_stAt 7 [97] 0 0 (by unfold I64; decide) (by show 1 ≤ maxLen; unfold maxLen; decide) (in_dflt w) (by unfold I64; decide) (by unfold I64; decide)) (by unfold I64; decide) (by decide) (by decide) (by decide) (by decide) (by decide)
  have HA : Hid (∀ er o, AppF noS 0 (stAt 7 [97] default 0 0) er o → er = 8) := by show ∀ _, _; exact fun _ _ => alive_drop
  have h2 := fun g w1 (h : At w1 g 54 #[.string ⟨#[105, 100]⟩, .int .i64 1, .bool true, .bool false, .string ⟨#[]⟩, .int .i64 0]) => dapply_any noS 3 (stAt 6 [] (idT g) 0 0) w1 (in_noS w1) (in_stAt 6 [] 0 0 (by unfold I64; decide) (by show 0 ≤ maxLen; unfold maxLen; decide) (in_idT h) (by unfold I64; decide) (by unfold I64; decide)) (by unfold I64; decide) (by decide) (by show wtT (idT 0) ≤ 1048573; decide) (by show wtS noS + wtT (idT 0) + 0 ≤ 1900000; decide) (by decide) (by decide)
  have HB : Hid (∀ g er o, AppF noS 3 (stAt 6 [] (idT g) 0 0) er o → er = 0 ∧ o.ver = 1 ∧ o.tn = 1 ∧ (o.tab 0).owner = 3) := by show ∀ _, _; exact fun g _ _ => alive_make g
  have hS := Lib.hid sorted_noS
  go_enter Tryz.func7, Tryz.ntmps7
  go_wp2_with fail
  refine h1.mono ?_
  rintro e w1 ⟨⟨o, er, rfl, -, hF⟩, b1⟩
  unfold Sc.val
  obtain rfl := HA.out er o (hF hS.out)
  clear h1 HA hF
  have k2 := below_box w1 (.cells #[.int .i64 o.ver, .slice o.tA o.tn o.tcap, .slice o.gA o.gn o.gcap] 25)
  have bA := below_in b1 k2
  have k3 := below_box (w1.alloc (.cells #[.int .i64 o.ver, .slice o.tA o.tn o.tcap, .slice o.gA o.gn o.gcap] 25)) (.cells #[.string ⟨#[105, 100]⟩, .int .i64 1, .bool true, .bool false, .string ⟨#[]⟩, .int .i64 0] 54)
  have aC := At.fresh (w1.alloc (.cells #[.int .i64 o.ver, .slice o.tA o.tn o.tcap, .slice o.gA o.gn o.gcap] 25)) 54 #[.string ⟨#[105, 100]⟩, .int .i64 1, .bool true, .bool false, .string ⟨#[]⟩, .int .i64 0]
  have bB := below_in bA k3
  have h3 := h2 _ _ aC
  clear h2 aC k2 k3
  simp only [World.size_alloc] at h3
  go_wp2_with fail
  refine h3.mono ?_
  rintro e w2 ⟨⟨o2, er2, rfl, ho2, hF2⟩, b2⟩
  obtain ⟨rfl, hv, hn, how⟩ := HB.out _ er2 o2 (hF2 hS.out)
  have bC := below_in bB (w2 := w2) (by simp only [World.size_alloc]; exact b2)
  obtain ⟨bb, off, htA, hbl, hcell⟩ := ho2.tabs (by omega)
  obtain ⟨-, d1, -, -⟩ := (hcell 0 (by omega)).1
  rw [how] at d1
  clear h3 HB hF2 hcell how ho2
  unfold Sc.val
  obtain ⟨ver, tA, tn, tcap, tab, gA, gn, gcap, gs⟩ := o2
  simp only at hv hn htA ⊢
  subst hv hn htA
  have k4 := below_box w2 (.cells #[.int .i64 1, .slice (some ⟨bb, off, none⟩) 1 tcap, .slice gA gn gcap] 25)
  have bD := below_in bC k4
  have d2 := k4.cell (p := ⟨bb, off + 0 * 4 + 1, none⟩) hbl
  rw [d1] at d2
  rw [Nat.zero_mul, Nat.add_zero] at d2
  clear d1 k4
  go_wp2_with fail
  go_ret
  exact ⟨rfl, bD⟩

set_option maxRecDepth 100000 in
set_option maxHeartbeats 3200000 in
theorem dgreat_any (s : Sc) (st : St) (w : World) (hs : InS w s) (hst : InSt w st) (hw : wtS s ≤ 1048576) : Calls Tryz.prog 8 #[s.val, st.val] w fun e w' => (∃ b : Bool, e = .returned (.bool b) ∧ (b = false → s.tn + s.gn ≤ 200)) ∧ Below w.heap.size w w' := by
  have b1 := below_box w (.cells #[.int .i64 s.ver, .slice s.tA s.tn s.tcap, .slice s.gA s.gn s.gcap] 25)
  have aS := At.fresh w 25 #[.int .i64 s.ver, .slice s.tA s.tn s.tcap, .slice s.gA s.gn s.gcap]
  have b2 := below_box (w.alloc (.cells #[.int .i64 s.ver, .slice s.tA s.tn s.tcap, .slice s.gA s.gn s.gcap] 25)) (.cells st.cells 34)
  have aT := At.fresh (w.alloc (.cells #[.int .i64 s.ver, .slice s.tA s.tn s.tcap, .slice s.gA s.gn s.gcap] 25)) 34 st.cells
  have aS2 := aS.below b2 aS.lt
  have bb := below_in b1 b2
  obtain ⟨W, hW⟩ : ∃ W, (w.alloc (.cells #[.int .i64 s.ver, .slice s.tA s.tn s.tcap, .slice s.gA s.gn s.gcap] 25)).alloc (.cells st.cells 34) = W := ⟨_, rfl⟩
  rw [hW] at aT aS2 bb
  simp only [World.size_alloc] at aT
  have hG := sgreatC_any s W (hs.below bb) hw
  have hG2 := fun g w1 (b : Below w.heap.size w w1) h => sgreat_any (soloS st.def_ g) w1 (in_solo (hst.def_.below b) h)
  have hT := hst.table
  unfold maxLen at hT
  have HW := Lib.hid hW
  clear hW b1 b2 aS hs hst
  obtain ⟨s0, s1, s2⟩ := aS2.tri0
  have HV : Hid (st.val = .agg st.cells) := rfl
  unfold Sc.val at hG hG2 ⊢
  rw [HV.out]
  go_enter Tryz.func8, Tryz.ntmps8
  go_wp2_with fail
  rw [HW.out]
  clear HW
  refine hG.mono ?_
  rintro e w2 ⟨⟨B, rfl, hB⟩, bb2⟩
  have b12 := below_in bb bb2
  have aT2 := aT.below bb2 aT.lt
  have c1 := aT2.stmt.c1
  obtain ⟨-, -, -, -, -, -, -, -, -, -, -, -, -, d13, d14, d15, d16, -, -⟩ := aT2.stmt
  have aN := At.fresh w2 32 #[.string ⟨st.def_.name.toArray⟩, .int .i64 st.def_.owner, .slice st.def_.cA st.def_.cn st.def_.ccap, .slice st.def_.eA st.def_.en st.def_.ecap]
  have kN := below_box w2 (.cells #[.string ⟨st.def_.name.toArray⟩, .int .i64 st.def_.owner, .slice st.def_.cA st.def_.cn st.def_.ccap, .slice st.def_.eA st.def_.en st.def_.ecap] 32)
  have hG3 := hG2 _ _ (below_in b12 kN) aN
  unfold soloS at hG3
  simp only at hG3
  have aT3 := aT2.below kN aT2.lt
  have b13 := below_in b12 kN
  clear hG hG2 aN kN s0 s1 s2
  cases B with
  | true =>
    go_wp2_with fail
    go_ret
    exact ⟨⟨true, rfl, fun h => by cases h⟩, b12⟩
  | false =>
    have HB := Lib.hid (hB rfl)
    clear hB
    go_wp2_with fail
    refine hG3.mono ?_
    rintro e w3 ⟨⟨B, rfl⟩, bb3⟩
    have b14 := below_in b13 bb3
    have c1' := (aT3.below bb3 aT3.lt).stmt.c1
    cases B with
    | true =>
      go_wp2_with fail
      go_ret
      exact ⟨⟨true, rfl, fun h => by cases h⟩, b14⟩
    | false =>
      go_wp2_with fail
      go_ret
      exact ⟨⟨_, rfl, fun _ => HB.out⟩, b14⟩
end Go.Proofs.YtnhalfdddcjicaaGreat

namespace Go.Proofs.YtnhalfdddcjicaaGreat
open Go.RowKit

theorem wt_list (s : Sc) : wtL ((List.range s.tn).map s.tab) = sumN s.tn fun j => wtT (s.tab j) := by
  unfold wtL sumN
  rw [List.map_map]
  rfl
theorem wt_two {w : World} {s : Sc} (hs : InS w s) : wtL ((List.range s.tn).map s.tab) + wtGs s.grants + 3 = wtS s := by
  have := sum_range wtG s.grants
  rw [hs.grants.1] at this
  rw [wt_list]
  unfold wtS wtGs
  rw [this]
  omega
theorem treeS_list (s : Sc) : (treeS s).tabs = ((List.range s.tn).map s.tab).map treeT := by
  unfold treeS
  rw [List.map_map]
  rfl
theorem wtL_app (a b : List Tb) : wtL (a ++ b) = wtL a + wtL b := by unfold wtL; rw [List.map_append, List.sum_append]
theorem gr_ok2 {w : World} {st : St} (h : InSt w st) : st.gr.Ok := ⟨h.role, h.bits, h.table⟩
/-- The tables and grants that a statement leads to, as far as is to be known. -/
theorem app_lists {w : World} {s : Sc} {role : Int} {st : St} {X : Sd} (hs : InS w s) (hst : InSt w st) (hr : I64 role) (h : AppT s role st 0 X) :
    ∃ L gs, X = ⟨vnext s.ver, L.map treeT, gs⟩ ∧ (∀ x ∈ L, InT w x) ∧ (∀ g ∈ gs, g.Ok) ∧ L.length ≤ s.tn + 1 ∧ gs.length ≤ s.gn + 1 ∧ wtL L + wtGs gs + 3 ≤ wtS s + wtT st.def_ + st.table.length := by
  have h2 := wt_two hs
  have h4 : 4 ≤ wtT st.def_ := by unfold wtT; omega
  have hin : ∀ x ∈ (List.range s.tn).map s.tab, InT w x := fun x hx => by
    obtain ⟨j, hj, rfl⟩ := List.mem_map.1 hx
    exact in_tab hs (List.mem_range.1 hj)
  have hgl := hs.grants.1
  rcases h with ⟨-, h⟩ | ⟨-, ⟨-, h⟩ | ⟨-, -, hX⟩ | ⟨-, -, hX⟩ | ⟨put, -, ⟨h, -⟩ | ⟨-, gs', hg, hX⟩⟩⟩
  · exact absurd h (by decide)
  · exact absurd h (by decide)
  · refine ⟨(List.range s.tn).map s.tab ++ [st.def_.own role], s.grants, ?_, ?_, hs.grants.2.1, by simp, by omega, ?_⟩
    · rw [hX rfl, treeS_list, List.map_append]; rfl
    · intro x hx
      rcases List.mem_append.1 hx with hx | hx
      · exact hin x hx
      · obtain rfl : x = st.def_.own role := by simpa using hx
        exact ⟨hr, hst.def_.name, hst.def_.cmax, hst.def_.emax, hst.def_.cols, hst.def_.chk⟩
    · rw [wtL_app]
      have : wtL [st.def_.own role] = wtT st.def_ := by show wtT st.def_ + 0 = _; omega
      omega
  · obtain ⟨j, -, hX⟩ := hX rfl
    refine ⟨((List.range s.tn).map s.tab).eraseIdx j, woG st.table s.grants, ?_, ?_, ?_, ?_, ?_, ?_⟩
    · rw [hX, treeS_list, List.eraseIdx_eq_take_drop_succ, List.eraseIdx_eq_take_drop_succ, List.map_append, List.map_take, List.map_drop]
    · exact fun x hx => hin x (List.mem_of_mem_eraseIdx hx)
    · exact fun g hg => hs.grants.2.1 g (List.mem_filter.1 (show g ∈ s.grants.filter _ from hg)).1
    · have := List.length_eraseIdx_le ((List.range s.tn).map s.tab) j
      simp at this ⊢
      omega
    · have := wo_len st.table s.grants; omega
    · have := wt_erase ((List.range s.tn).map s.tab) j
      have := wt_wo st.table s.grants
      omega
  · exact absurd rfl h
  · refine ⟨(List.range s.tn).map s.tab, gs', ?_, hin, give_ok hg hs.grants.2.1 (gr_ok2 hst), by simp, ?_, ?_⟩
    · rw [hX rfl, treeS_list]
    · have := give_len hg; omega
    · have := wt_give hg
      have : wtG st.gr = 3 + st.table.length := rfl
      omega
theorem app_len {w : World} {s : Sc} {role : Int} {st : St} {X : Sd} (hs : InS w s) (hst : InSt w st) (hr : I64 role) (hsum : wtS s + wtT st.def_ + st.table.length ≤ 1900000) (h : AppT s role st 0 X) : (encSd X).length ≤ 100000000 := by
  obtain ⟨L, gs, rfl, h1, h2, h3, h4, h5⟩ := app_lists hs hst hr h
  have := tn_wt s
  have := enc_out (i64_next s.ver) h1 h2 ⟨by omega, by omega⟩ (fun x hx => by have : wtT x ≤ wtL L := mem_wt hx; omega) (fun x hx => by have : wtG x ≤ wtGs gs := mem_wt hx; omega)
  omega
end Go.Proofs.YtnhalfdddcjicaaGreat
