/- The walks of the reference's Take and Same (layer 3). -/
import Derived.Test.YtnlfemfkjjjdhaaGreatDoorRowA
import Derived.Test.YtnlfemfkjjjdhaaGreatDoorValOpen
namespace Go.Proofs.YtnlfemfkjjjdhaaGreatDoor
open Go.RowKit

theorem rfI_le {l : List UInt8} {p : Nat} (bad : Bool) (hp : p ≤ l.length) : (rfI l p bad).2.1 ≤ l.length := by
  unfold rfI
  split
  · exact hp
  · split
    · rename_i u k hg
      have := grp_le hg
      rw [List.length_drop] at this
      show p + k ≤ l.length
      omega
    · exact hp
theorem rfS_le {l : List UInt8} {p : Nat} (bad : Bool) (hp : p ≤ l.length) : (rfS l p bad).2.1 ≤ l.length ∧ (rfS l p bad).1.length ≤ l.length := by
  unfold rfS
  split
  · exact ⟨hp, by simp⟩
  · split
    · rename_i u k hg
      have := grp_le hg
      rw [List.length_drop] at this
      split
      · exact ⟨by show p + k ≤ l.length; omega, by simp⟩
      · exact ⟨by show p + k + (unzig u).toNat ≤ l.length; omega, by simp; omega⟩
    · exact ⟨hp, by simp⟩
theorem rfI_i64 (l : List UInt8) (p : Nat) (bad : Bool) : I64 (rfI l p bad).1 := by
  unfold rfI
  split
  · show I64 0; unfold I64; decide
  · split
    · rename_i u k hg
      exact unzig_i64 u (grp_ok _ 0 0 u k (by omega) (by simp) hg).2.2
    · show I64 0; unfold I64; decide
theorem takeR_le {l : List UInt8} {p : Nat} (bad : Bool) (hp : p ≤ l.length) : (takeR l p bad).2.1 ≤ l.length := by
  unfold takeR
  simp only
  split
  · exact (rfS_le _ (rfI_le _ (rfI_le _ hp))).1
  · exact (rfS_le _ (rfI_le _ (rfI_le _ hp))).1

set_option maxRecDepth 100000 in
set_option maxHeartbeats 1600000 in
theorem rtake_any (m : Nat) (l : List UInt8) (p : Nat) (bad : Bool) (w : World) (h : Rf w m l p bad) (hl : l.length ≤ 1000000) (hp : p ≤ l.length) :
    Calls Tryz.prog 24 #[.pointer (some ⟨m, 0, none⟩)] w fun e w' => e = .returned (takeR l p bad).1.val ∧ Rf w' m l (takeR l p bad).2.1 (takeR l p bad).2.2 ∧ w.grownBy w' (some m) := by
  have hml := At.lt h
  have i1 := rfI_i64 l p bad
  have p1 := rfI_le bad hp
  have HT : Hid (takeR l p bad = if (rfS l (rfI l (rfI l p bad).2.1 (rfI l p bad).2.2).2.1 (rfI l (rfI l p bad).2.1 (rfI l p bad).2.2).2.2).2.2 = true ∨ goodV ⟨(rfI l p bad).1, (rfI l (rfI l p bad).2.1 (rfI l p bad).2.2).1, (rfS l (rfI l (rfI l p bad).2.1 (rfI l p bad).2.2).2.1 (rfI l (rfI l p bad).2.1 (rfI l p bad).2.2).2.2).1⟩ = false
    then (⟨0, 0, []⟩, (rfS l (rfI l (rfI l p bad).2.1 (rfI l p bad).2.2).2.1 (rfI l (rfI l p bad).2.1 (rfI l p bad).2.2).2.2).2.1, true)
    else (⟨(rfI l p bad).1, (rfI l (rfI l p bad).2.1 (rfI l p bad).2.2).1, (rfS l (rfI l (rfI l p bad).2.1 (rfI l p bad).2.2).2.1 (rfI l (rfI l p bad).2.1 (rfI l p bad).2.2).2.2).1⟩, (rfS l (rfI l (rfI l p bad).2.1 (rfI l p bad).2.2).2.1 (rfI l (rfI l p bad).2.1 (rfI l p bad).2.2).2.2).2.1, false)) := rfl
  have hA := At.fresh w 23 #[.int .i64 0, .int .i64 0, .string ⟨#[]⟩]
  have h0 : Rf (w.alloc (.cells #[.int .i64 0, .int .i64 0, .string ⟨#[]⟩] 23)) m l p bad := At.alloc h _
  have g0 : w.grownBy (w.alloc (.cells #[.int .i64 0, .int .i64 0, .string ⟨#[]⟩] 23)) (some m) := World.grownBy_alloc _ _ _
  have hne : some w.heap.size ≠ some m := fun e => by injection e; omega
  go_enter Tryz.func24, Tryz.ntmps24
  go_wp2_with fail
  refine (fI_any m l p bad _ h0 hl hp).mono ?_
  rintro e w1 ⟨rfl, h1, r1⟩
  have hA1 := At.grown hA r1 hne
  have g1 := grownBy_tr g0 r1
  generalize rfI l p bad = a at *
  obtain ⟨k, p', bad'⟩ := a
  simp only at i1 p1 h1 HT ⊢
  have i2 := rfI_i64 l p' bad'
  have p2 := rfI_le bad' p1
  clear hA h0 g0 r1
  go_wp2_with fail
  refine (fI_any m l p' bad' _ h1 hl p1).mono ?_
  rintro e w2 ⟨rfl, h2, r2⟩
  have hA2 := At.grown hA1 r2 hne
  have g2 := grownBy_tr g1 r2
  generalize rfI l p' bad' = a at *
  obtain ⟨n, p2', bad2'⟩ := a
  simp only at i2 p2 h2 HT ⊢
  have p3 := rfS_le bad2' p2
  clear hA1 h1 g1 r2
  go_wp2_with fail
  refine (fS_any m l p2' bad2' _ h2 hl p2).mono ?_
  rintro e w3 ⟨rfl, h3, r3⟩
  have hA3 := At.grown hA2 r3 hne
  have g3 := grownBy_tr g2 r3
  generalize rfS l p2' bad2' = a at *
  obtain ⟨t, p3', bad3'⟩ := a
  simp only at p3 h3 HT ⊢
  clear hA2 h2 g2 r3
  have hok : (Vl.mk k n t).Ok := ⟨i1, i2, by show t.length ≤ maxLen; unfold maxLen; omega⟩
  have HO := Lib.hid hok
  have b4 := below_box w3 (.cells #[.int .i64 k, .int .i64 n, .string ⟨t.toArray⟩] 23)
  have hA4 := hA3.alloc (.cells #[.int .i64 k, .int .i64 n, .string ⟨t.toArray⟩] 23)
  have hV4 := At.fresh w3 23 #[.int .i64 k, .int .i64 n, .string ⟨t.toArray⟩]
  have h4 : Rf (w3.alloc (.cells #[.int .i64 k, .int .i64 n, .string ⟨t.toArray⟩] 23)) m l p3' bad3' := At.alloc h3 _
  have g4 := grown_in g3 b4
  have q2 : (w3.alloc (.cells #[.int .i64 k, .int .i64 n, .string ⟨t.toArray⟩] 23)).cell? ⟨m, 2, none⟩ = some (.bool bad3') := At.cell h4 2
  have fz : (w3.alloc (.cells #[.int .i64 k, .int .i64 n, .string ⟨t.toArray⟩] 23)).frozen? ⟨m, 2, none⟩ = false := At.unfrozen h4 2
  clear hok
  cases bad3' with
  | true =>
    have HT2 := Lib.hid (HT.out.trans (if_pos (.inl rfl)))
    have hA5 := hA4.elsewhere (p := ⟨m, 2, none⟩) (fun e : w.heap.size = m => hne (by rw [e])) (.bool true)
    have h5 := At.put h4 2 (.bool true)
    have c0 : ((w3.alloc (.cells #[.int .i64 k, .int .i64 n, .string ⟨t.toArray⟩] 23)).setCell ⟨m, 2, none⟩ (.bool true)).cell? ⟨w.heap.size, 0, none⟩ = some (.int .i64 0) := At.cell hA5 0
    have c1 : ((w3.alloc (.cells #[.int .i64 k, .int .i64 n, .string ⟨t.toArray⟩] 23)).setCell ⟨m, 2, none⟩ (.bool true)).cell? ⟨w.heap.size, 1, none⟩ = some (.int .i64 0) := At.cell hA5 1
    have c2 : ((w3.alloc (.cells #[.int .i64 k, .int .i64 n, .string ⟨t.toArray⟩] 23)).setCell ⟨m, 2, none⟩ (.bool true)).cell? ⟨w.heap.size, 2, none⟩ = some (.string ⟨#[]⟩) := At.cell hA5 2
    have f0 := At.unfrozen hA5 0
    have f1 := At.unfrozen hA5 1
    have f2 := At.unfrozen hA5 2
    go_wp2_with fail
    refine bodyPost_ret (v := (takeR l p bad).1.val) (by rw [HT2.out]; simp [results, Tryz.results24, go_sem, Vl.val, c0, c1, c2]) rfl ⟨rfl, ?_, grown_put3 (grownBy_tr g4 (grownBy_set _ _ _ _)) _ _ _⟩
    rw [HT2.out]
    exact At.put3 h5 (by omega) _ _ _
  | false =>
    go_wp2_with fail
    refine (rgood_any ⟨k, n, t⟩ HO.out _).mono ?_
    rintro e w5 ⟨rfl, b5⟩
    have hA5 := hA4.below b5 hA4.lt
    have hV5 := hV4.below b5 hV4.lt
    have h5 : Rf w5 m l p3' false := At.below h4 b5 (At.lt h4)
    have g5 := grown_in g4 b5
    clear hA3 hA4 hV4 h3 h4 g3 g4 b4 b5 q2 fz
    cases hg : goodV ⟨k, n, t⟩ with
    | true =>
      have HT2 := Lib.hid (HT.out.trans (if_neg (by rintro (h | h); cases h; rw [hg] at h; cases h)))
      have v0 : w5.cell? ⟨w3.heap.size, 0, none⟩ = some (.int .i64 k) := At.cell hV5 0
      have v1 : w5.cell? ⟨w3.heap.size, 1, none⟩ = some (.int .i64 n) := At.cell hV5 1
      have v2 : w5.cell? ⟨w3.heap.size, 2, none⟩ = some (.string ⟨t.toArray⟩) := At.cell hV5 2
      have c0 : w5.cell? ⟨w.heap.size, 0, none⟩ = some (.int .i64 0) := At.cell hA5 0
      have c1 : w5.cell? ⟨w.heap.size, 1, none⟩ = some (.int .i64 0) := At.cell hA5 1
      have c2 : w5.cell? ⟨w.heap.size, 2, none⟩ = some (.string ⟨#[]⟩) := At.cell hA5 2
      have f0 := At.unfrozen hA5 0
      have f1 := At.unfrozen hA5 1
      have f2 := At.unfrozen hA5 2
      go_wp2_with fail
      refine bodyPost_ret (v := (takeR l p bad).1.val) (by rw [HT2.out]; simp [results, Tryz.results24, go_sem, Vl.val, c0, c1, c2]) rfl ⟨rfl, ?_, grown_put3 g5 _ _ _⟩
      rw [HT2.out]
      exact At.put3 h5 (by omega) _ _ _
    | false =>
      have HT2 := Lib.hid (HT.out.trans (if_pos (.inr hg)))
      have q2 : w5.cell? ⟨m, 2, none⟩ = some (.bool false) := At.cell h5 2
      have fz : w5.frozen? ⟨m, 2, none⟩ = false := At.unfrozen h5 2
      have hA6 := hA5.elsewhere (p := ⟨m, 2, none⟩) (fun e : w.heap.size = m => hne (by rw [e])) (.bool true)
      have h6 := At.put h5 2 (.bool true)
      have c0 : (w5.setCell ⟨m, 2, none⟩ (.bool true)).cell? ⟨w.heap.size, 0, none⟩ = some (.int .i64 0) := At.cell hA6 0
      have c1 : (w5.setCell ⟨m, 2, none⟩ (.bool true)).cell? ⟨w.heap.size, 1, none⟩ = some (.int .i64 0) := At.cell hA6 1
      have c2 : (w5.setCell ⟨m, 2, none⟩ (.bool true)).cell? ⟨w.heap.size, 2, none⟩ = some (.string ⟨#[]⟩) := At.cell hA6 2
      have f0 := At.unfrozen hA6 0
      have f1 := At.unfrozen hA6 1
      have f2 := At.unfrozen hA6 2
      go_wp2_with fail
      refine bodyPost_ret (v := (takeR l p bad).1.val) (by rw [HT2.out]; simp [results, Tryz.results24, go_sem, Vl.val, c0, c1, c2]) rfl ⟨rfl, ?_, grown_put3 (grownBy_tr g5 (grownBy_set _ _ _ _)) _ _ _⟩
      rw [HT2.out]
      exact At.put3 h6 (by omega) _ _ _

set_option maxRecDepth 100000 in
set_option maxHeartbeats 1600000 in
theorem same_any (A B : Option Addr) (n ca cb : Nat) (vs : List Vl) (w : World) (hA : Vals w A n vs) (hB : Vals w B n vs) (hn : n ≤ 1000000) :
    Calls Tryz.prog 19 #[.slice A n ca, .slice B n cb] w fun e w' => e = .returned (.bool true) ∧ Below w.heap.size w w' := by
  go_enter Tryz.func19, Tryz.ntmps19
  go_wp2_with fail
  go_loopw [13] (fun i wr => ∃ k nd : Nat, k ≤ n ∧ i = .int .i64 k ∧ wr = w.drewN nd) (fun i _ => n - (intOf i).toNat)
  case atStart => exact ⟨0, 0, by omega, rfl, rfl⟩
  case round =>
    obtain ⟨k, nd, hk, rfl, rfl⟩ := hrel
    by_cases hlt : k < n
    · obtain ⟨b, off, rfl, hbl, hcell⟩ := hA.2 (by omega)
      obtain ⟨c0, c1, c2⟩ := hcell k hlt
      obtain ⟨b', off', rfl, hbl', hcell'⟩ := hB.2 (by omega)
      obtain ⟨d0, d1, d2⟩ := hcell' k hlt
      clear hcell hcell'
      generalize vs.getD k default = x at *
      obtain ⟨kk, nn, tt⟩ := x
      simp only at c0 c1 c2 d0 d1 d2
      have hlt' : (k : Int) < (n : Int) := by omega
      go_wp2_with fail
      go_quiet (fail)
      go_wp2_with fail
      exact ⟨⟨k + 1, _, by omega, by go_num, rfl⟩, by simp [intOf]; omega⟩
    · go_wp2_with fail
      go_ret
      exact ⟨rfl, below_nq (Below.refl _ _) _⟩
end Go.Proofs.YtnlfemfkjjjdhaaGreatDoor
