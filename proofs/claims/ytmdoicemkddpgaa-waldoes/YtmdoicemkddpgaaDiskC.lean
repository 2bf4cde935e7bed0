/- The walks of package disk that change a disk: Sync, On, Append, Trim, Off, New. -/
import Derived.Test.YtmdoicemkddpgaaDiskA
namespace Go.Proofs.Ytmdoicemkddpgaa
open Go.RowKit
section
variable {w : World} {base b : Nat} {v : Value} {D : Dk}
theorem Dsk.write (h : Dsk w base b v D) (i : Nat) (u : Value) (D' : Dk) (hx : D'.xs = D.xs) (hc : #[v, .int .i64 D.safe, .int .i64 D.size, .int .i64 D.boots, .bool D.down].setIfInBounds i u = #[v, .int .i64 D'.safe, .int .i64 D'.size, .int .i64 D'.boots, .bool D'.down]) :
    Dsk (w.setCell ⟨b, i, none⟩ u) base b v D' := by
  refine ⟨?_, ?_⟩
  · rw [← hc]; exact h.at_.put i u
  · rw [hx]; exact h.bts.far (p := ⟨b, i, none⟩) h.apart u

set_option maxRecDepth 100000 in
set_option maxHeartbeats 400000 in
theorem sync_any (hD : Dsk w base b v D) :
    Calls Try.prog 30 #[.pointer (some ⟨b, 0, none⟩)] w fun e w' => e = .returned (.int .i64 (D.sync.1 : Nat)) ∧ Dsk w' base b v D.sync.2 ∧ Wgrew w b v w' v := by
  have hu := usable_any hD
  have c0 : w.cell? ⟨b, 0, none⟩ = some v := At.cell hD.at_ 0
  have c1 : w.cell? ⟨b, 1, none⟩ = some (.int .i64 D.safe) := At.cell hD.at_ 1
  have f1 := At.unfrozen hD.at_ 1
  have hw := hD.write 1 (.int .i64 D.xs.length) { D with safe := D.xs.length } rfl rfl
  obtain ⟨A, cap, rfl, hl, hm⟩ := hD.bts.len
  unfold Dk.sync
  obtain ⟨xs, safe, size, boots, down⟩ := D
  simp only at hl c0 c1
  cases down
  · go_enter Try.func30, Try.ntmps30
    go_wp2_with fail
    refine hu.mono ?_
    rintro e w' ⟨rfl, rfl⟩
    go_wp2_with fail
    go_ret
    exact ⟨rfl, hw, Wgrew.set⟩
  · go_enter Try.func30, Try.ntmps30
    go_wp2_with fail
    refine hu.mono ?_
    rintro e w' ⟨rfl, rfl⟩
    go_wp2_with fail
    go_ret
    exact ⟨rfl, hD, Wgrew.refl _ _ _⟩

set_option maxRecDepth 100000 in
set_option maxHeartbeats 400000 in
theorem append_any (hD : Dsk w base b v D) (hk : D.Ok) (s : List UInt8) (hb : base ≤ w.heap.size) :
    Calls Try.prog 28 #[.pointer (some ⟨b, 0, none⟩), .string ⟨s.toArray⟩] w fun e w' => e = .returned (.int .i64 ((D.append s).1 : Nat)) ∧ ∃ v', Dsk w' base b v' (D.append s).2 ∧ Wgrew w b v w' v' := by
  obtain ⟨i0, hi0, hz0, hz1, hz2⟩ := info_parts info_u8
  have hu := usable_any hD
  have hlt := fun w1 (k : Still w w1) => left_any (hD.still k) hk
  have h1 := hk.full
  have h2 := hk.size
  have hne := hD.apart
  unfold Dk.append
  cases hd : D.down
  · rw [hd] at hu
    by_cases hf : D.size < D.xs.length + s.length
    · have ht : decide (((D.size - D.xs.length : Nat) : Int) < (s.length : Int)) = true := by simp; omega
      rw [if_pos hf]
      obtain ⟨L, hL⟩ : ∃ L, D.size - D.xs.length = L := ⟨_, rfl⟩
      rw [hL] at hlt ht
      go_enter Try.func28, Try.ntmps28
      go_wp2_with fail
      refine hu.mono ?_
      rintro e w' ⟨rfl, rfl⟩
      go_wp2_with fail
      refine (hlt _ (Still.refl _)).mono ?_
      rintro e w' ⟨rfl, hst⟩
      go_wp2_with fail
      go_ret
      exact ⟨rfl, v, hD.still hst, Wgrew.still hst⟩
    · have ht : decide (((D.size - D.xs.length : Nat) : Int) < (s.length : Int)) = false := by simp; omega
      rw [if_neg hf]
      obtain ⟨L, hL⟩ : ∃ L, D.size - D.xs.length = L := ⟨_, rfl⟩
      rw [hL] at hlt ht
      go_enter Try.func28, Try.ntmps28
      go_wp2_with fail
      refine hu.mono ?_
      rintro e w' ⟨rfl, rfl⟩
      go_wp2_with fail
      refine (hlt _ (Still.refl _)).mono ?_
      rintro e w' ⟨rfl, hst⟩
      have h' := hD.still hst
      have c0 : w'.cell? ⟨b, 0, none⟩ = some v := At.cell h'.at_ 0
      have hb' : base ≤ w'.heap.size := by rw [hst.size]; exact hb
      go_wp2_with (at_builtin; refine Bts.append_op rfl (.tmp 20) (.tmp 21) 48 9 rfl h'.bts i0 Try.underlying48 Try.underlying9 hi0 hz0 hz1 hz2 s rfl rfl (by omega) hb' ?_)
      intro v1 w1 hB1 hG1
      have hA1 : At w1 b 50 #[v, .int .i64 D.safe, .int .i64 D.size, .int .i64 D.boots, .bool D.down] := h'.at_.grown hG1.grown (fun e => hne e.symm)
      have f1 := At.unfrozen hA1 0
      have c1 : w1.cell? ⟨b, 0, none⟩ = some v := At.cell hA1 0
      have hne1 : v1.ownBlock ≠ some b := hB1.apart hA1 (by decide)
      rw [hd] at hA1
      obtain ⟨A1, cap1, rfl, _, _⟩ := hB1.len
      rw [List.length_append] at hB1 hG1 hne1
      go_wp2_with fail
      go_ret
      exact ⟨rfl, _, ⟨hA1.put 0 _, hB1.far (p := ⟨b, 0, none⟩) hne1 _⟩, (Wgrew.still hst).trans (Wgrew.step hG1 b)⟩
  · rw [hd] at hu
    go_enter Try.func28, Try.ntmps28
    go_wp2_with fail
    refine hu.mono ?_
    rintro e w' ⟨rfl, rfl⟩
    go_wp2_with fail
    go_ret
    exact ⟨rfl, v, hD, Wgrew.refl _ _ _⟩

set_option maxRecDepth 100000 in
set_option maxHeartbeats 400000 in
theorem on_any (hD : Dsk w base b v D) (hbo : D.boots < 1000000) :
    Calls Try.prog 19 #[.pointer (some ⟨b, 0, none⟩)] w fun e w' => e = .returned (.tuple #[]) ∧ Dsk w' base b v D.on ∧ Wgrew w b v w' v := by
  have c0 : w.cell? ⟨b, 0, none⟩ = some v := At.cell hD.at_ 0
  have c1 : w.cell? ⟨b, 1, none⟩ = some (.int .i64 D.safe) := At.cell hD.at_ 1
  have c3 : w.cell? ⟨b, 3, none⟩ = some (.int .i64 D.boots) := At.cell hD.at_ 3
  have c4 : w.cell? ⟨b, 4, none⟩ = some (.bool D.down) := At.cell hD.at_ 4
  have f1 := At.unfrozen hD.at_ 1
  have f3 := At.unfrozen hD.at_ 3
  have f4 := At.unfrozen hD.at_ 4
  have q1 := hD.write 1 (.int .i64 D.xs.length) { D with safe := D.xs.length } rfl rfl
  have q2 := q1.write 3 (.int .i64 ((D.boots + 1 : Nat) : Int)) { D with safe := D.xs.length, boots := D.boots + 1 } rfl rfl
  have q3 := q2.write 4 (.bool false) { D with safe := D.xs.length, boots := D.boots + 1, down := false } rfl rfl
  clear q1 q2
  obtain ⟨A, cap, rfl, hl, hm⟩ := hD.bts.len
  unfold Dk.on
  obtain ⟨xs, safe, size, boots, down⟩ := D
  simp only at hl c0 c1 c3 c4 hbo q3
  cases down
  · go_enter Try.func19, Try.ntmps19
    go_wp2_with fail
    refine bodyPost_ret (results_none rfl _ _ _) rfl ?_
    exact ⟨rfl, hD, Wgrew.refl _ _ _⟩
  · go_enter Try.func19, Try.ntmps19
    go_wp2_with fail
    go_end0
    exact ⟨rfl, q3, (Wgrew.set.trans Wgrew.set).trans Wgrew.set⟩

set_option maxRecDepth 100000 in
set_option maxHeartbeats 400000 in
theorem trim_any (hD : Dsk w base b v D) (hk : D.Ok) (n : Int) :
    Calls Try.prog 26 #[.pointer (some ⟨b, 0, none⟩), .int .i64 n] w fun e w' => e = .returned (.int .i64 ((D.trim n).1 : Nat)) ∧ ∃ v', Dsk w' base b v' (D.trim n).2 ∧ Wgrew w b v w' v' := by
  have hu := usable_any hD
  have c0 : w.cell? ⟨b, 0, none⟩ = some v := At.cell hD.at_ 0
  obtain ⟨A, cap, rfl, hl, hm⟩ := hD.bts.len
  have h1 := hk.full
  have h2 := hk.size
  unfold Dk.trim
  cases hd : D.down
  · rw [hd] at hu
    by_cases hn : n < 0
    · rw [if_neg Bool.false_ne_true, if_pos (.inl hn)]
      go_enter Try.func26, Try.ntmps26
      go_wp2_with fail
      refine hu.mono ?_
      rintro e w' ⟨rfl, rfl⟩
      go_wp2_with fail
      go_ret
      exact ⟨rfl, _, hD, Wgrew.refl _ _ _⟩
    · by_cases hg : (D.xs.length : Int) < n
      · rw [if_neg Bool.false_ne_true, if_pos (.inr hg)]
        go_enter Try.func26, Try.ntmps26
        go_wp2_with fail
        refine hu.mono ?_
        rintro e w' ⟨rfl, rfl⟩
        go_wp2_with fail
        go_ret
        exact ⟨rfl, _, hD, Wgrew.refl _ _ _⟩
      · rw [if_neg Bool.false_ne_true, if_neg (by omega)]
        obtain ⟨m, rfl⟩ : ∃ m : Nat, n = (m : Int) := ⟨n.toNat, by omega⟩
        have hmx : m ≤ D.xs.length := by omega
        have hcut := cut_any hD m hmx
        clear hn
        go_enter Try.func26, Try.ntmps26
        go_wp2_with fail
        refine hu.mono ?_
        rintro e w' ⟨rfl, rfl⟩
        go_wp2_with fail
        refine hcut.mono ?_
        rintro e w1 ⟨rfl, v1, hD1, hG1⟩
        have c1 : w1.cell? ⟨b, 1, none⟩ = some (.int .i64 D.safe) := At.cell hD1.at_ 1
        have f1 := At.unfrozen hD1.at_ 1
        have q1 := hD1.write 1 (.int .i64 m) { D with xs := D.xs.take m, safe := m } rfl rfl
        rw [hd] at q1
        go_wp2_with fail
        go_ret
        exact ⟨rfl, v1, q1, hG1.trans Wgrew.set⟩
  · rw [hd] at hu
    go_enter Try.func26, Try.ntmps26
    go_wp2_with fail
    refine hu.mono ?_
    rintro e w' ⟨rfl, rfl⟩
    go_wp2_with fail
    go_ret
    exact ⟨rfl, _, hD, Wgrew.refl _ _ _⟩
end
end Go.Proofs.Ytmdoicemkddpgaa
