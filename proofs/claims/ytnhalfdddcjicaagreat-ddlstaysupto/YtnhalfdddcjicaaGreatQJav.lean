/- slices.Insert at grants. -/
/- slices.Insert at grants, where there is no room. -/
import Derived.Test.YtnhalfdddcjicaaGreatQJau
import Derived.Shelf.Spec.SlicesInsert
namespace Go.Proofs.YtnhalfdddcjicaaGreat
open Go.RowKit

theorem cs_one (x : Gr) : ∀ u ∈ x.cs, u.oneCell' = true := fun u hu => by simp [Gr.cs] at hu; rcases hu with rfl | rfl | rfl <;> rfl

set_option maxRecDepth 100000 in
set_option maxHeartbeats 1600000 in
theorem insertEnd_any (base vb : Nat) (v : Value) (n : Nat) (xs : List Value) (x : Gr) (w : World) (h : w.ownsRow base 50 3 v n xs) (hv : At w vb 50 x.cs.toArray) (hn : n ≤ 1000) (hb : base ≤ w.heap.size) :
    Calls Tryz.prog 77 #[v, .int .i64 n, .slice (some ⟨vb, 0, none⟩) 1 1] w fun e w' => ∃ v', e = .returned v' ∧ w'.ownsRow base 50 3 v' (n + 1) (xs ++ x.cs) ∧ Below base w w' := by
  have hnews : ∀ j u, x.cs[j]? = some u → w.cell? ((⟨vb, 0, none⟩ : Addr).add j) = some u := fun j u hu => by
    have e : (⟨vb, 0, none⟩ : Addr).add j = ⟨vb, j, none⟩ := by unfold Addr.add; split <;> simp_all
    rw [e, At.cell hv j]
    simpa using hu
  have h0 := h
  rcases h.2 with ⟨rfl, rfl⟩ | ⟨g, cap, cur, rfl, hbg, hg, hnc, hcm, _, _⟩
  · go_enter Tryz.func77, Tryz.ntmps77
    go_wp2_with (at_builtin; refine wp_append_at rfl (.tmp 23) (.tmp 24) 23 rfl 50 3 32 _ Tryz.underlying23 info_grant rfl (by omega) h0 ⟨vb, 0, none⟩ 1 1 x.cs rfl rfl rfl hnews (cs_one x) (by omega) (by omega) hb ?_)
    intro v w2 ho hg
    have HO := Lib.hid ho
    clear ho
    go_wp2_with fail
    go_ret
    exact ⟨_, rfl, HO.out, (Below.refl base w).grown hg hb (fun k hk => by simp [Value.ownBlock] at hk)⟩
  · unfold maxLen at hcm
    go_enter Tryz.func77, Tryz.ntmps77
    go_wp2_with (at_builtin; refine wp_append_at rfl (.tmp 23) (.tmp 24) 23 rfl 50 3 32 _ Tryz.underlying23 info_grant rfl (by omega) h0 ⟨vb, 0, none⟩ 1 1 x.cs rfl rfl rfl hnews (cs_one x) (by omega) (by omega) hb ?_)
    all_goals
      intro v w2 ho hg
      have HO := Lib.hid ho
      clear ho
      go_wp2_with fail
      go_ret
      exact ⟨_, rfl, HO.out, (Below.refl base w).grown hg hb (fun k hk => by simp [Value.ownBlock] at hk; omega)⟩

theorem lay_two {l mv cs : List Value} {I N : Nat} (h1 : mv.length = N - I) (h2 : cs.length = 3) (h3 : I ≤ N) (h4 : N + 3 ≤ l.length) : (layL I (layL (I + 3) l mv) cs).take (N + 3) = l.take I ++ cs ++ mv := by
  have e1 : (layL (I + 3) l mv).take I = l.take I := by
    unfold layL
    rw [List.append_assoc, List.take_append_of_le_length (by rw [List.length_take]; omega), List.take_take, Nat.min_eq_left (by omega)]
  have e2 : (layL (I + 3) l mv).drop (I + 3) = mv ++ l.drop (I + 3 + mv.length) := by
    unfold layL
    rw [List.append_assoc, List.drop_left' (by rw [List.length_take]; omega)]
  show (List.take I (layL (I + 3) l mv) ++ cs ++ (layL (I + 3) l mv).drop (I + cs.length)).take (N + 3) = _
  rw [h2, e1, e2, ← List.append_assoc, List.take_left' (by simp only [List.length_append, List.length_take]; omega)]
theorem shape_at {w : World} {g : Nat} {t : TypeId} {cs : Array Value} (h : At w g t cs) : w.shape? g = some (t, cs.size) := by
  unfold World.shape?
  rw [show w.heap[g]? = some (.cells cs t (0, 0)) from h]

set_option maxRecDepth 100000 in
set_option maxHeartbeats 3200000 in
theorem insertShift_any (base g vb n c i : Nat) (l : List Value) (x : Gr) (w : World) (hl : l.length = c * 3) (hA : At w g 50 l.toArray) (hv : At w vb 50 x.cs.toArray) (hne : vb ≠ g) (hi : i < n) (hnc : n + 1 ≤ c) (hn : n ≤ 1000) (hb : base ≤ g)
    (h1 : ∀ u ∈ l.take (n * 3), u.oneCell' = true) :
    Calls Tryz.prog 77 #[.slice (some ⟨g, 0, none⟩) n c, .int .i64 i, .slice (some ⟨vb, 0, none⟩) 1 1] w fun e w' => e = .returned (.slice (some ⟨g, 0, none⟩) (n + 1) c) ∧
      (∃ l' : List Value, At w' g 50 l'.toArray ∧ l'.length = c * 3 ∧ l'.take ((n + 1) * 3) = l.take (i * 3) ++ x.cs ++ (l.take (n * 3)).drop (i * 3)) ∧ Below base w w' := by
  have u22 := run_underlying (P := Tryz.prog) Tryz.underlying23
  have hgl := hA.lt
  have hsz : (Tryz.prog.info? 50).map (·.size) = some 3 := by
    obtain ⟨i0, hi0, hz0, hzs, hzb⟩ := info_parts info_grant
    rw [hi0]; simp [hzs]
  have hov : ∀ (o lb cb : Nat), (callFunc 104 #[.slice (some ⟨vb, 0, none⟩) 1 1, .slice (some ⟨g, o, none⟩) lb cb]).run Tryz.prog w = .ok (.value (.bool false)) w := fun o lb cb => by
    rw [run_callFunc_extern Tryz.func104 (by kernel_rfl) (by kernel_rfl) (by kernel_rfl) (e := Extern.SlicesOverlaps.overlaps #[23, 23] #[4]) (by kernel_rfl),
      Lib.run_overlaps_apart w 23 4 50 Tryz.underlying23 3 (fun w => by
        obtain ⟨i0, hi0, hz0, hzs, hzb⟩ := info_parts info_grant
        simp [sizeOf, typeInfo, hi0, hzs]) ⟨vb, 0, none⟩ ⟨g, o, none⟩ 1 1 lb cb hne _ _ _ _ (shape_at hv) (shape_at hA) (by simp [hl]; omega) (At.unfrozen hv 0) (At.unfrozen hv _)]
    rfl
  have hz1 : ¬ ((i : Int) = (n : Int)) := by omega
  have hw1 : IntKind.i64.wrap ((i : Int) + 1) = (i : Int) + 1 := by rw [IntKind.wrap_i64] <;> omega
  have hw2 : IntKind.i64.wrap ((n : Int) + 1) = (n : Int) + 1 := by rw [IntKind.wrap_i64] <;> omega
  have hr1 : ¬ ((c : Int) < (n : Int) + 1) := by omega
  have hr2 : ((n : Int) + 1) ≤ (c : Int) := by omega
  have htn : ((i : Int) + 1).toNat = i + 1 := by omega
  have htn2 : ((n : Int) + 1).toNat = n + 1 := by omega
  have hci : ¬ (c = i) := by omega
  have hci1 : ¬ (c = i + 1) := by omega
  have hin : i ≤ n := by omega
  have hin0 : (0 : Int) ≤ (i : Int) + 1 := by omega
  have mixed : Tryz.prog.follows .mixedOrders = true := by kernel_rfl
  have hin2 : (i : Int) + 1 ≤ (n : Int) + 1 := by omega
  have hin3 : (i : Int) ≤ (n : Int) + 1 := by omega
  go_enter Tryz.func77, Tryz.ntmps77
  have hmin : Nat.min (n + 1 - i) (n - i) = n - i := by simp only [Nat.min_def]; split <;> omega
  have hmin2 : Nat.min 1 (n + 1 - i) = 1 := by simp only [Nat.min_def]; split <;> omega
  obtain ⟨mv, hmv⟩ : ∃ mv, mv = (l.drop (i * 3)).take ((n - i) * 3) := ⟨_, rfl⟩
  have hml : mv.length = (n - i) * 3 := by rw [hmv, List.length_take, List.length_drop]; omega
  have hmx : mv = (l.take (n * 3)).drop (i * 3) := by
    rw [hmv, List.drop_take, show n * 3 - i * 3 = (n - i) * 3 by omega]
  have hcp1 : ∀ ty dc sc, (Builtin.copy_ #[23, 23] ty #[.slice (some ⟨g, (i + 1) * 3, none⟩) (n - i) dc, .slice (some ⟨g, i * 3, none⟩) (n + 1 - i) sc]).run Tryz.prog w.drew = .ok (goInt ((n - i : Nat) : Int)) (w.drew.setCells g ((i + 1) * 3) mv) := fun ty dc sc => by
    have h := run_copy_at (P := Tryz.prog) w.drew 23 23 ty 50 3 g ((i + 1) * 3) (n - i) dc g (i * 3) (n + 1 - i) sc _ _ l l Tryz.underlying23 hsz hA hA (by rw [hmin]; omega) (by rw [hmin]; omega) (by
      rw [hmin, ← hmv, hmx]
      exact fun u hu => h1 u (List.mem_of_mem_drop hu))
    rw [hmin, ← hmv] at h
    exact h
  have hA1 : At (w.drew.setCells g ((i + 1) * 3) mv) g 50 (layL ((i + 1) * 3) l mv).toArray := At.sets mv _ l w.drew hA (by rw [hml]; omega)
  have hv1 : At (w.drew.setCells g ((i + 1) * 3) mv) vb 50 x.cs.toArray := by
    have : ∀ (vs : List Value) (o : Nat) (w : World), At w vb 50 x.cs.toArray → At (w.setCells g o vs) vb 50 x.cs.toArray := fun vs => by
      induction vs with
      | nil => intro o w h; exact h
      | cons u r ih => intro o w h; rw [World.setCells]; exact ih _ _ (h.elsewhere hne u)
    exact this mv _ w.drew hv
  obtain ⟨W1, hW1⟩ : ∃ W1, W1 = w.drew.setCells g ((i + 1) * 3) mv := ⟨_, rfl⟩
  have hcl : x.cs.length = 3 := rfl
  rw [← hW1] at hcp1 hA1 hv1
  have hcp2 : ∀ ty dc, (Builtin.copy_ #[23, 23] ty #[.slice (some ⟨g, i * 3, none⟩) (n + 1 - i) dc, .slice (some ⟨vb, 0, none⟩) 1 1]).run Tryz.prog W1 = .ok (goInt ((1 : Nat) : Int)) (W1.setCells g (i * 3) x.cs) := fun ty dc => by
    have h := run_copy_at (P := Tryz.prog) W1 23 23 ty 50 3 g (i * 3) (n + 1 - i) dc vb 0 1 1 _ _ _ x.cs Tryz.underlying23 hsz hA1 hv1 (by rw [hmin2, layL_len (by rw [hml]; omega)]; omega) (by rw [hmin2]; simp [hcl]) (fun u hu => cs_one x u (List.mem_of_mem_drop (List.mem_of_mem_take hu)))
    rw [hmin2] at h
    exact h
  have hA2 : At (W1.setCells g (i * 3) x.cs) g 50 (layL (i * 3) (layL ((i + 1) * 3) l mv) x.cs).toArray := At.sets x.cs _ _ W1 hA1 (by rw [layL_len (by rw [hml]; omega), hcl]; omega)
  have hbel : Below base w (W1.setCells g (i * 3) x.cs) := by
    rw [hW1]
    exact below_sets hb _ _ _ (below_sets hb _ _ _ (Below.refl base w).drew)
  have HMX := Lib.hid hmx
  have HA2 := Lib.hid hA2
  clear hW1 hmv hmx hA2 hA1 hv1
  go_wp2_with (simp only [hov])
  go_region_law_o (refine step_copy_runI rfl _ _ 23 23 rfl _ _ (by simp [Act.eval, Act.put]) (by simp [Act.eval, Act.put]) (hcp1 _ _ _) ?_)
  go_wp2_with (at_builtin; refine wpList_copy_runI _ rfl _ _ 23 23 rfl _ _ rfl rfl (hcp2 _ _) ?_)
  go_ret
  refine ⟨rfl, ⟨_, HA2.out, ?_, ?_⟩, hbel⟩
  · rw [layL_len (by rw [layL_len (by rw [hml]; omega), hcl]; omega), layL_len (by rw [hml]; omega)]
    exact hl
  · rw [← HMX.out, show (n + 1) * 3 = n * 3 + 3 by omega, show (i + 1) * 3 = i * 3 + 3 by omega]
    exact lay_two (by rw [hml]; omega) hcl (by omega) (by omega)
end Go.Proofs.YtnhalfdddcjicaaGreat

namespace Go.Proofs.YtnhalfdddcjicaaGreat
open Go.RowKit

theorem lay_two2 {R mv cs : List Value} {I N : Nat} (h1 : mv.length = N - I) (h2 : cs.length = 3) (h3 : I ≤ N) (h4 : N + 3 ≤ R.length) : (layL (I + 3) (layL I R cs) mv).take (N + 3) = R.take I ++ cs ++ mv := by
  have e1 : (layL I R cs).take (I + 3) = R.take I ++ cs := by
    unfold layL
    rw [List.take_left' (by simp only [List.length_append, List.length_take]; omega)]
  show (List.take (I + 3) (layL I R cs) ++ mv ++ _).take (N + 3) = _
  rw [e1, List.take_left' (by simp only [List.length_append, List.length_take]; omega)]

set_option maxRecDepth 100000 in
set_option maxHeartbeats 3200000 in
theorem insertGrow_any (base g vb n c i : Nat) (l : List Value) (x : Gr) (w : World) (hl : l.length = c * 3) (hA : At w g 50 l.toArray) (hv : At w vb 50 x.cs.toArray) (hi : i < n) (hnc : n ≤ c) (hroom : c < n + 1) (hn : n ≤ 1000) (hb : base ≤ w.heap.size)
    (h1 : ∀ u ∈ l.take (n * 3), u.oneCell' = true) :
    Calls Tryz.prog 77 #[.slice (some ⟨g, 0, none⟩) n c, .int .i64 i, .slice (some ⟨vb, 0, none⟩) 1 1] w fun e w' => ∃ G, e = .returned (.slice (some ⟨w.heap.size, 0, none⟩) (n + 1) G) ∧ n + 1 ≤ G ∧ G ≤ maxLen ∧
      (∃ l' : List Value, At w' w.heap.size 50 l'.toArray ∧ l'.length = G * 3 ∧ l'.take ((n + 1) * 3) = l.take (i * 3) ++ x.cs ++ (l.take (n * 3)).drop (i * 3)) ∧ Below base w w' := by
  have u22 := run_underlying (P := Tryz.prog) Tryz.underlying23
  have hgl := hA.lt
  have hvl := hv.lt
  obtain ⟨i0, hi0, hz0, hzs, hzb⟩ := info_parts info_grant
  have hsz : (Tryz.prog.info? 50).map (·.size) = some 3 := by rw [hi0]; simp [hzs]
  have hz1 : ¬ ((i : Int) = (n : Int)) := by omega
  have hw1 : IntKind.i64.wrap ((i : Int) + 1) = (i : Int) + 1 := by rw [IntKind.wrap_i64] <;> omega
  have hw2 : IntKind.i64.wrap ((n : Int) + 1) = (n : Int) + 1 := by rw [IntKind.wrap_i64] <;> omega
  have hkk : (n : Int) + 1 - (i : Int) = ((n + 1 - i : Nat) : Int) := by omega
  have hw3 : IntKind.i64.wrap ((n : Int) + 1 - (i : Int)) = (n : Int) + 1 - (i : Int) := by rw [IntKind.wrap_i64] <;> omega
  have hr1 : (c : Int) < (n : Int) + 1 := by omega
  have htn : ((i : Int) + 1).toNat = i + 1 := by omega
  have hci : ¬ (c = i) := by omega
  have hin : i ≤ n := by omega
  have hin0 : (0 : Int) ≤ (i : Int) + 1 := by omega
  have mixed : Tryz.prog.follows .mixedOrders = true := by kernel_rfl
  have hik : i + (n + 1 - i) = n + 1 := by omega
  have hold : (Builtin.firstCells i0.size i (.slice (some ⟨g, 0, none⟩) i c)).run Tryz.prog w.drew = .ok (l.take (i * 3)).toArray w.drew := by
    rw [hzs]
    exact run_firstCells_some w.drew 3 i ⟨g, 0, none⟩ i c (l.take (i * 3)) (by rw [List.length_take]; omega) (fun j v hj => by
      have e : (⟨g, 0, none⟩ : Addr).add j = ⟨g, j, none⟩ := by unfold Addr.add; split <;> simp_all
      rw [e, At.cell (show At w.drew g _ _ from hA) j]
      rw [List.getElem?_take] at hj
      split at hj
      · simpa using hj
      · cases hj)
  obtain ⟨G, hG⟩ : ∃ G, G = grownCap w (n + 1) c 50 := ⟨_, rfl⟩
  obtain ⟨ROW, hROW⟩ : ∃ ROW : Array Value, ROW = (l.take (i * 3)).toArray ++ Builtin.zeroCells (Value.agg #[.int .i64 0, .string ⟨#[]⟩, .int .i64 0]).cells (n + 1 - i) ++ Builtin.zeroCells (Value.agg #[.int .i64 0, .string ⟨#[]⟩, .int .i64 0]).cells (G - (n + 1)) := ⟨_, rfl⟩
  have hrz : ∀ ty, (Builtin.append_ #[23, 3] ty #[.slice (some ⟨g, 0, none⟩) i c, .int .i64 ((n : Int) + 1 - (i : Int))]).run Tryz.prog w =
      .ok (.slice (some ⟨w.heap.size, 0, none⟩) (n + 1) G) (w.drew.alloc (.cells ROW 50)) := fun ty => by
    have h := Lib.run_append_grow_zeros (P := Tryz.prog) w 23 3 ty 50 i0 _ .i64 .i64 Tryz.underlying23 Tryz.underlying3 hi0 hz0 (some ⟨g, 0, none⟩) i c (l.take (i * 3)) hold (n + 1 - i) (by omega) (by omega) (by omega) (by omega) (by rw [hzb]; omega) (by rw [hzb, hik]; exact growslice_fits hroom (by omega))
    rw [hik, ← hG, ← hROW] at h
    rw [hkk]
    exact h
  have hGn : n + 1 ≤ G := by rw [hG]; exact grownCap_ge w _ _ _
  have hGm : G ≤ maxLen := by rw [hG]; exact grownCap_le_maxLen w (n + 1) c 50 (by unfold maxLen; omega)
  have hRl : ROW.size = G * 3 := by
    rw [hROW]
    simp [Builtin.zeroCells, Value.cells]
    omega
  have hRt : ROW.toList.take (i * 3) = l.take (i * 3) := by
    rw [hROW]
    simp only [Array.toList_append, List.append_assoc]
    rw [List.take_left' (by simp only [List.length_take]; omega)]
  obtain ⟨RL, hRL⟩ : ∃ RL : List Value, ROW = RL.toArray := ⟨ROW.toList, by simp⟩
  subst hRL
  have hRl' : RL.length = G * 3 := by simpa using hRl
  have hRt' : RL.take (i * 3) = l.take (i * 3) := by simpa using hRt
  have hmin : Nat.min (n - i) (n - i) = n - i := Nat.min_self _
  have hmin2 : Nat.min 1 (n + 1 - i) = 1 := by simp only [Nat.min_def]; split <;> omega
  obtain ⟨mv, hmv⟩ : ∃ mv, mv = (l.drop (i * 3)).take ((n - i) * 3) := ⟨_, rfl⟩
  have hml : mv.length = (n - i) * 3 := by rw [hmv, List.length_take, List.length_drop]; omega
  have hmx : mv = (l.take (n * 3)).drop (i * 3) := by
    rw [hmv, List.drop_take, show n * 3 - i * 3 = (n - i) * 3 by omega]
  have hcl : x.cs.length = 3 := rfl
  have hcpA : ∀ (W : World), At W w.heap.size 50 RL.toArray → At W vb 50 x.cs.toArray → ∀ ty dc, (Builtin.copy_ #[23, 23] ty #[.slice (some ⟨w.heap.size, i * 3, none⟩) (n + 1 - i) dc, .slice (some ⟨vb, 0, none⟩) 1 1]).run Tryz.prog W = .ok (goInt ((1 : Nat) : Int)) (W.setCells w.heap.size (i * 3) x.cs) := fun W h2 h3 ty dc => by
    have h := run_copy_at (P := Tryz.prog) W 23 23 ty 50 3 w.heap.size (i * 3) (n + 1 - i) dc vb 0 1 1 _ _ _ x.cs Tryz.underlying23 hsz h2 h3 (by rw [hmin2]; omega) (by rw [hmin2]; simp [hcl]) (fun u hu => cs_one x u (List.mem_of_mem_drop (List.mem_of_mem_take hu)))
    rw [hmin2] at h
    exact h
  have hcpB : ∀ (W : World) (R : List Value), At W w.heap.size 50 R.toArray → R.length = G * 3 → At W g 50 l.toArray → ∀ ty dc sc, (Builtin.copy_ #[23, 23] ty #[.slice (some ⟨w.heap.size, (i + 1) * 3, none⟩) (n - i) dc, .slice (some ⟨g, i * 3, none⟩) (n - i) sc]).run Tryz.prog W = .ok (goInt ((n - i : Nat) : Int)) (W.setCells w.heap.size ((i + 1) * 3) mv) := fun W R h2 h4 h3 ty dc sc => by
    have h := run_copy_at (P := Tryz.prog) W 23 23 ty 50 3 w.heap.size ((i + 1) * 3) (n - i) dc g (i * 3) (n - i) sc _ _ R l Tryz.underlying23 hsz h2 h3 (by rw [hmin]; omega) (by rw [hmin]; omega) (by
      rw [hmin, ← hmv, hmx]
      exact fun u hu => h1 u (List.mem_of_mem_drop hu))
    rw [hmin, ← hmv] at h
    exact h
  have far : ∀ {b : Nat} {cs : Array Value} (vs : List Value) (o : Nat) (W : World), b ≠ w.heap.size → At W b 50 cs → At (W.setCells w.heap.size o vs) b 50 cs := fun {b} {cs} vs => by
    induction vs with
    | nil => intro o W _ h; exact h
    | cons u r ih => intro o W hne h; rw [World.setCells]; exact ih _ _ hne (h.elsewhere hne u)
  have hAt1' : At (w.alloc (.cells RL.toArray 50)).drew w.heap.size 50 RL.toArray := At.fresh w 50 RL.toArray
  have hvt1' : At (w.alloc (.cells RL.toArray 50)).drew vb 50 x.cs.toArray := At.alloc hv _
  have hgt1 : At (w.alloc (.cells RL.toArray 50)).drew g 50 l.toArray := At.alloc hA _
  have hAt2 : At ((w.alloc (.cells RL.toArray 50)).drew.setCells w.heap.size (i * 3) x.cs).drew w.heap.size 50 (layL (i * 3) RL x.cs).toArray := At.sets x.cs (i * 3) RL _ hAt1' (by rw [hcl]; omega)
  have hgt2 : At ((w.alloc (.cells RL.toArray 50)).drew.setCells w.heap.size (i * 3) x.cs).drew g 50 l.toArray := far x.cs (i * 3) _ (by omega) hgt1
  have hL2 : (layL (i * 3) RL x.cs).length = G * 3 := by rw [layL_len (by rw [hcl]; omega)]; exact hRl'
  have hAt3 := At.sets mv ((i + 1) * 3) _ _ hAt2 (by rw [hL2, hml]; omega)
  have hbel : Below base w (((w.alloc (.cells RL.toArray 50)).drew.setCells w.heap.size (i * 3) x.cs).drew.setCells w.heap.size ((i + 1) * 3) mv) :=
    below_sets hb _ _ _ (below_sets hb _ _ _ (((Below.refl base w).alloc hb _).drew)).drew
  have HMX := Lib.hid hmx
  have HA3 := Lib.hid hAt3
  have HG : Hid (n + 1 ≤ G ∧ G ≤ maxLen) := ⟨hGn, hGm⟩
  unfold maxLen at hGm
  have hG63 : (G : Int) ≤ 9223372036854775807 := by omega
  have hGi : ¬ (G = i) := by omega
  have hGi1 : ¬ (G = i + 1) := by omega
  have hin2 : (i : Int) + 1 ≤ (n : Int) + 1 := by omega
  have hin3 : (i : Int) ≤ (n : Int) + 1 := by omega
  clear hkk hik hold hROW hG hRl hRt hmv hmx hAt3 hi0 hz0 hzs hzb far
  go_enter Tryz.func77, Tryz.ntmps77
  go_wp2_with (first
    | (at_builtin; refine Lib.wpList_append_run _ rfl _ _ _ _ rfl _ _ rfl rfl _ _ (hrz _) ?_)
    | (at_builtin; refine wpList_copy_runI _ rfl _ _ 23 23 rfl _ _ rfl rfl (hcpA _ hAt1' hvt1' _ _) ?_))
  go_region_law_o (refine step_copy_runI rfl _ _ 23 23 rfl (.slice (some ⟨w.heap.size, (i + 1) * 3, none⟩) (n - i) (G - (i + 1))) (.slice (some ⟨g, i * 3, none⟩) (n - i) (c - i)) (by simp [Act.eval, Act.put]) (by simp [Act.eval, Act.put]) (hcpB _ _ hAt2 hL2 hgt2 3 (G - (i + 1)) (c - i)) ?_)
  go_wp2_with fail
  go_ret
  refine ⟨G, rfl, HG.out.1, HG.out.2, ⟨_, HA3.out, ?_, ?_⟩, hbel⟩
  · rw [layL_len (by rw [hL2, hml]; omega)]
    exact hL2
  · rw [← HMX.out, ← hRt', show (n + 1) * 3 = n * 3 + 3 by omega, show (i + 1) * 3 = i * 3 + 3 by omega]
    exact lay_two2 (by rw [hml]; omega) hcl (by omega) (by omega)
end Go.Proofs.YtnhalfdddcjicaaGreat
