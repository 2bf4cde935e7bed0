/- slices.Insert at grants. -/
import Derived.Test.YteehccklnidofaaQGrI
import Derived.Shelf.Spec.SlicesInsert
namespace Go.Proofs.Yteehccklnidofaa
open Go.RowKit

theorem cs_one (x : Gr) : ∀ u ∈ x.cs, u.oneCell' = true := fun u hu => by simp [Gr.cs] at hu; rcases hu with rfl | rfl | rfl <;> rfl

set_option maxRecDepth 100000 in
set_option maxHeartbeats 1600000 in
theorem insertEnd_any (base vb : Nat) (v : Value) (n : Nat) (xs : List Value) (x : Gr) (w : World) (h : w.ownsRow base 24 3 v n xs) (hv : At w vb 24 x.cs.toArray) (hn : n ≤ 1000) (hb : base ≤ w.heap.size) :
    Calls Try.prog 27 #[v, .int .i64 n, .slice (some ⟨vb, 0, none⟩) 1 1] w fun e w' => ∃ v', e = .returned v' ∧ w'.ownsRow base 24 3 v' (n + 1) (xs ++ x.cs) ∧ Below base w w' := by
  have hnews : ∀ j u, x.cs[j]? = some u → w.cell? ((⟨vb, 0, none⟩ : Addr).add j) = some u := fun j u hu => by
    have e : (⟨vb, 0, none⟩ : Addr).add j = ⟨vb, j, none⟩ := by unfold Addr.add; split <;> simp_all
    rw [e, At.cell hv j]
    simpa using hu
  have h0 := h
  rcases h.2 with ⟨rfl, rfl⟩ | ⟨g, cap, cur, rfl, hbg, hg, hnc, hcm, _, _⟩
  · go_enter Try.func27, Try.ntmps27
    go_wp2_with (at_builtin; refine wp_append_at rfl (.tmp 23) (.tmp 24) 22 rfl 24 3 32 _ Try.underlying22 info_grant rfl (by omega) h0 ⟨vb, 0, none⟩ 1 1 x.cs rfl rfl rfl hnews (cs_one x) (by omega) (by omega) hb ?_)
    intro v w2 ho hg
    have HO := Lib.hid ho
    clear ho
    go_wp2_with fail
    go_ret
    exact ⟨_, rfl, HO.out, (Below.refl base w).grown hg hb (fun k hk => by simp [Value.ownBlock] at hk)⟩
  · unfold maxLen at hcm
    go_enter Try.func27, Try.ntmps27
    go_wp2_with (at_builtin; refine wp_append_at rfl (.tmp 23) (.tmp 24) 22 rfl 24 3 32 _ Try.underlying22 info_grant rfl (by omega) h0 ⟨vb, 0, none⟩ 1 1 x.cs rfl rfl rfl hnews (cs_one x) (by omega) (by omega) hb ?_)
    all_goals
      intro v w2 ho hg
      have HO := Lib.hid ho
      clear ho
      go_wp2_with fail
      go_ret
      exact ⟨_, rfl, HO.out, (Below.refl base w).grown hg hb (fun k hk => by simp [Value.ownBlock] at hk; omega)⟩

theorem lay_two {l mv cs : List Value} {I N : Nat} (h1 : mv.length = N - I) (h2 : cs.length = 3) (h3 : I ≤ N) (h4 : N + 3 ≤ l.length) : (layL I (layL (I + 3) l mv) cs).take (N + 3) = l.take I ++ cs ++ mv := by
  have e1 : (layL (I + 3) l mv).take I = l.take I := by
    unfold layL
    rw [List.append_assoc, List.take_append_of_le_length (by rw [List.length_take]; omega), List.take_take, Nat.min_eq_left (by omega)]
  have e2 : (layL (I + 3) l mv).drop (I + 3) = mv ++ l.drop (I + 3 + mv.length) := by
    unfold layL
    rw [List.append_assoc, List.drop_left' (by rw [List.length_take]; omega)]
  show (List.take I (layL (I + 3) l mv) ++ cs ++ (layL (I + 3) l mv).drop (I + cs.length)).take (N + 3) = _
  rw [h2, e1, e2, ← List.append_assoc, List.take_left' (by simp only [List.length_append, List.length_take]; omega)]
theorem shape_at {w : World} {g : Nat} {t : TypeId} {cs : Array Value} (h : At w g t cs) : w.shape? g = some (t, cs.size) := by
  unfold World.shape?
  rw [show w.heap[g]? = some (.cells cs t (0, 0)) from h]

set_option maxRecDepth 100000 in
set_option maxHeartbeats 3200000 in
theorem insertShift_any (base g vb n c i : Nat) (l : List Value) (x : Gr) (w : World) (hl : l.length = c * 3) (hA : At w g 24 l.toArray) (hv : At w vb 24 x.cs.toArray) (hne : vb ≠ g) (hi : i < n) (hnc : n + 1 ≤ c) (hn : n ≤ 1000) (hb : base ≤ g)
    (h1 : ∀ u ∈ l.take (n * 3), u.oneCell' = true) :
    Calls Try.prog 27 #[.slice (some ⟨g, 0, none⟩) n c, .int .i64 i, .slice (some ⟨vb, 0, none⟩) 1 1] w fun e w' => e = .returned (.slice (some ⟨g, 0, none⟩) (n + 1) c) ∧
      (∃ l' : List Value, At w' g 24 l'.toArray ∧ l'.length = c * 3 ∧ l'.take ((n + 1) * 3) = l.take (i * 3) ++ x.cs ++ (l.take (n * 3)).drop (i * 3)) ∧ Below base w w' := by
  have u22 := run_underlying (P := Try.prog) Try.underlying22
  have hgl := hA.lt
  have hsz : (Try.prog.info? 24).map (·.size) = some 3 := by
    obtain ⟨i0, hi0, hz0, hzs, hzb⟩ := info_parts info_grant
    rw [hi0]; simp [hzs]
  have hov : ∀ (o lb cb : Nat), (callFunc 35 #[.slice (some ⟨vb, 0, none⟩) 1 1, .slice (some ⟨g, o, none⟩) lb cb]).run Try.prog w = .ok (.value (.bool false)) w := fun o lb cb => by
    rw [run_callFunc_extern Try.func35 (by kernel_rfl) (by kernel_rfl) (by kernel_rfl) (e := Extern.SlicesOverlaps.overlaps #[22, 22] #[4]) (by kernel_rfl),
      Lib.run_overlaps_apart w 22 4 24 Try.underlying22 3 (fun w => by
        obtain ⟨i0, hi0, hz0, hzs, hzb⟩ := info_parts info_grant
        simp [sizeOf, typeInfo, hi0, hzs]) ⟨vb, 0, none⟩ ⟨g, o, none⟩ 1 1 lb cb hne _ _ _ _ (shape_at hv) (shape_at hA) (by simp [hl]; omega) (At.unfrozen hv 0) (At.unfrozen hv _)]
    rfl
  have hz1 : ¬ ((i : Int) = (n : Int)) := by omega
  have hw1 : IntKind.i64.wrap ((i : Int) + 1) = (i : Int) + 1 := by rw [IntKind.wrap_i64] <;> omega
  have hw2 : IntKind.i64.wrap ((n : Int) + 1) = (n : Int) + 1 := by rw [IntKind.wrap_i64] <;> omega
  have hr1 : ¬ ((c : Int) < (n : Int) + 1) := by omega
  have hr2 : ((n : Int) + 1) ≤ (c : Int) := by omega
  have htn : ((i : Int) + 1).toNat = i + 1 := by omega
  have htn2 : ((n : Int) + 1).toNat = n + 1 := by omega
  have hci : ¬ (c = i) := by omega
  have hci1 : ¬ (c = i + 1) := by omega
  have hin : i ≤ n := by omega
  have hin0 : (0 : Int) ≤ (i : Int) + 1 := by omega
  have mixed : Try.prog.follows .mixedOrders = true := by kernel_rfl
  have hin2 : (i : Int) + 1 ≤ (n : Int) + 1 := by omega
  have hin3 : (i : Int) ≤ (n : Int) + 1 := by omega
  go_enter Try.func27, Try.ntmps27
  have hmin : Nat.min (n + 1 - i) (n - i) = n - i := by simp only [Nat.min_def]; split <;> omega
  have hmin2 : Nat.min 1 (n + 1 - i) = 1 := by simp only [Nat.min_def]; split <;> omega
  obtain ⟨mv, hmv⟩ : ∃ mv, mv = (l.drop (i * 3)).take ((n - i) * 3) := ⟨_, rfl⟩
  have hml : mv.length = (n - i) * 3 := by rw [hmv, List.length_take, List.length_drop]; omega
  have hmx : mv = (l.take (n * 3)).drop (i * 3) := by
    rw [hmv, List.drop_take, show n * 3 - i * 3 = (n - i) * 3 by omega]
  have hcp1 : ∀ ty dc sc, (Builtin.copy_ #[22, 22] ty #[.slice (some ⟨g, (i + 1) * 3, none⟩) (n - i) dc, .slice (some ⟨g, i * 3, none⟩) (n + 1 - i) sc]).run Try.prog w.drew = .ok (goInt ((n - i : Nat) : Int)) (w.drew.setCells g ((i + 1) * 3) mv) := fun ty dc sc => by
    have h := run_copy_at (P := Try.prog) w.drew 22 22 ty 24 3 g ((i + 1) * 3) (n - i) dc g (i * 3) (n + 1 - i) sc _ _ l l Try.underlying22 hsz hA hA (by rw [hmin]; omega) (by rw [hmin]; omega) (by
      rw [hmin, ← hmv, hmx]
      exact fun u hu => h1 u (List.mem_of_mem_drop hu))
    rw [hmin, ← hmv] at h
    exact h
  have hA1 : At (w.drew.setCells g ((i + 1) * 3) mv) g 24 (layL ((i + 1) * 3) l mv).toArray := At.sets mv _ l w.drew hA (by rw [hml]; omega)
  have hv1 : At (w.drew.setCells g ((i + 1) * 3) mv) vb 24 x.cs.toArray := by
    have : ∀ (vs : List Value) (o : Nat) (w : World), At w vb 24 x.cs.toArray → At (w.setCells g o vs) vb 24 x.cs.toArray := fun vs => by
      induction vs with
      | nil => intro o w h; exact h
      | cons u r ih => intro o w h; rw [World.setCells]; exact ih _ _ (h.elsewhere hne u)
    exact this mv _ w.drew hv
  obtain ⟨W1, hW1⟩ : ∃ W1, W1 = w.drew.setCells g ((i + 1) * 3) mv := ⟨_, rfl⟩
  have hcl : x.cs.length = 3 := rfl
  rw [← hW1] at hcp1 hA1 hv1
  have hcp2 : ∀ ty dc, (Builtin.copy_ #[22, 22] ty #[.slice (some ⟨g, i * 3, none⟩) (n + 1 - i) dc, .slice (some ⟨vb, 0, none⟩) 1 1]).run Try.prog W1 = .ok (goInt ((1 : Nat) : Int)) (W1.setCells g (i * 3) x.cs) := fun ty dc => by
    have h := run_copy_at (P := Try.prog) W1 22 22 ty 24 3 g (i * 3) (n + 1 - i) dc vb 0 1 1 _ _ _ x.cs Try.underlying22 hsz hA1 hv1 (by rw [hmin2, layL_len (by rw [hml]; omega)]; omega) (by rw [hmin2]; simp [hcl]) (fun u hu => cs_one x u (List.mem_of_mem_drop (List.mem_of_mem_take hu)))
    rw [hmin2] at h
    exact h
  have hA2 : At (W1.setCells g (i * 3) x.cs) g 24 (layL (i * 3) (layL ((i + 1) * 3) l mv) x.cs).toArray := At.sets x.cs _ _ W1 hA1 (by rw [layL_len (by rw [hml]; omega), hcl]; omega)
  have hbel : Below base w (W1.setCells g (i * 3) x.cs) := by
    rw [hW1]
    exact below_sets hb _ _ _ (below_sets hb _ _ _ (Below.refl base w).drew)
  have HMX := Lib.hid hmx
  have HA2 := Lib.hid hA2
  clear hW1 hmv hmx hA2 hA1 hv1
  go_wp2_with (simp only [hov])
  go_region_law_o (refine step_copy_runI rfl _ _ 22 22 rfl _ _ (by simp [Act.eval, Act.put]) (by simp [Act.eval, Act.put]) (hcp1 _ _ _) ?_)
  go_wp2_with (at_builtin; refine wpList_copy_runI _ rfl _ _ 22 22 rfl _ _ rfl rfl (hcp2 _ _) ?_)
  go_ret
  refine ⟨rfl, ⟨_, HA2.out, ?_, ?_⟩, hbel⟩
  · rw [layL_len (by rw [layL_len (by rw [hml]; omega), hcl]; omega), layL_len (by rw [hml]; omega)]
    exact hl
  · rw [← HMX.out, show (n + 1) * 3 = n * 3 + 3 by omega, show (i + 1) * 3 = i * 3 + 3 by omega]
    exact lay_two (by rw [hml]; omega) hcl (by omega) (by omega)
end Go.Proofs.Yteehccklnidofaa
