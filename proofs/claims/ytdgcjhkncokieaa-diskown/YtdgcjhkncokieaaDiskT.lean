/- The walks of the laws' helpers of layer 5: great, same, does, alive. -/
import Derived.Test.YtdgcjhkncokieaaDiskS
import Derived.Test.YtdgcjhkncokieaaCallOpen
import Derived.BigQuiet
namespace Go.Proofs.Ytdgcjhkncokieaa
open Go.RowKit

/-- More than is played? -/
def sumS (cs : List Cl) : Nat := (cs.map fun c => c.s.length).sum
def greatC (cs : List Cl) : Bool := cs.any (fun c => decide (4096 < c.s.length)) || decide (60 < cs.length) || decide (8192 < sumS cs)
theorem greatC_at {cs : List Cl} {k : Nat} (hk : k < cs.length) (h : 4096 < (cs.getD k default).s.length) : greatC cs = true := by
  have hm : cs.getD k default ∈ cs := by rw [List.getD_eq_getElem?_getD, List.getElem?_eq_getElem hk]; exact List.getElem_mem hk
  unfold greatC
  rw [List.any_eq_true.2 ⟨_, hm, by simpa using h⟩]
  rfl
theorem greatC_end {cs : List Cl} (h : ∀ j, j < cs.length → (cs.getD j default).s.length ≤ 4096) : greatC cs = (decide (60 < cs.length) || decide (8192 < sumS cs)) := by
  have e : cs.any (fun c => decide (4096 < c.s.length)) = false := by
    rw [List.any_eq_false]
    intro c hc
    obtain ⟨i, hi, rfl⟩ := List.getElem_of_mem hc
    have := h i hi
    rw [List.getD_eq_getElem?_getD, List.getElem?_eq_getElem hi] at this
    simp at this ⊢
    exact this
  unfold greatC
  rw [e]
  rfl
theorem small_ofC {cs : List Cl} (h : greatC cs = false) : cs.length ≤ 60 ∧ ∀ c ∈ cs, c.s.length ≤ 4096 := by
  unfold greatC at h
  simp only [Bool.or_eq_false_iff, List.any_eq_false, decide_eq_true_eq, decide_eq_false_iff_not] at h
  exact ⟨by omega, fun c hc => by have := h.1.1 c hc; omega⟩
theorem sumS_take {cs : List Cl} {k : Nat} (h : k < cs.length) : sumS (cs.take (k + 1)) = sumS (cs.take k) + (cs.getD k default).s.length := by
  unfold sumS
  rw [List.take_succ_eq_append_getElem h, List.map_append, List.sum_append, List.getD_eq_getElem?_getD, List.getElem?_eq_getElem h]
  simp
theorem sumS_le {cs : List Cl} (h : ∀ j, j < cs.length → (cs.getD j default).s.length ≤ 4096) : sumS cs ≤ 4096 * cs.length := by
  induction cs with
  | nil => simp [sumS]
  | cons c r ih =>
    have h0 := h 0 (by simp)
    have h1 := ih (fun j hj => by have := h (j + 1) (by simp; omega); simpa using this)
    simp [sumS] at h0 h1 ⊢
    omega
theorem ret_bool {a b : Bool} (h : a = b) : Ending.returned (.bool a) = .returned (.bool b) := by rw [h]
theorem okC_at {cs : List Cl} (h : ∀ c ∈ cs, c.Ok) {k : Nat} (hk : k < cs.length) : (cs.getD k default).Ok := by
  rw [List.getD_eq_getElem?_getD, List.getElem?_eq_getElem hk]
  exact h _ (List.getElem_mem hk)

set_option maxRecDepth 100000 in
set_option maxHeartbeats 1600000 in
theorem great_any (A : Option Addr) (n cap : Nat) (cs : List Cl) (w : World) (hv : Clls w A n cs) (hok : ∀ c ∈ cs, c.Ok) (hn : n ≤ maxLen) :
    Calls Try.prog 8 #[.slice A n cap] w fun e w' => e = .returned (.bool (greatC cs)) ∧ Below w.heap.size w w' := by
  unfold maxLen at hn
  have hvl := hv.1
  go_enter Try.func8, Try.ntmps8
  go_wp2_with fail
  go_loopw [3, 8] (fun acc i wr => ∃ (k : Nat) (z : Int), k ≤ n ∧ i = .int .i64 k ∧ acc = .int .i64 z ∧ Hid (k ≤ 60 → z = (sumS (cs.take k) : Int)) ∧ Hid (∀ j, j < k → (cs.getD j default).s.length ≤ 4096) ∧ Below w.heap.size w wr) (fun _ i _ => n - (intOf i).toNat)
  case atStart => exact ⟨0, 0, by omega, rfl, rfl, fun _ => by simp [sumS], fun j hj => by omega, Below.refl _ _⟩
  case round =>
    obtain ⟨k, z, hk, rfl, rfl, hz, hsm, hb⟩ := hrel
    by_cases hlt : k < n
    · obtain ⟨b, off, rfl, hbl, hcell⟩ := (hv.below hb).2 (by omega)
      obtain ⟨c0, c1, c2, c3⟩ := hcell k hlt
      have hok1 := okC_at hok (k := k) (by omega)
      have hG := fun h => greatC_at (cs := cs) (k := k) (by omega) h
      have hS : ∀ j, j < k + 1 → j ≠ k → (cs.getD j default).s.length ≤ 4096 := fun j hj hne => hsm.out j (by omega)
      have hT := sumS_take (cs := cs) (k := k) (by omega)
      have hL : sumS (cs.take k) ≤ 4096 * k := by
        have := sumS_le (cs := cs.take k) (fun j hj => by
          have hj' : j < k := by rw [List.length_take] at hj; omega
          have := hsm.out j hj'
          rw [List.getD_eq_getElem?_getD] at this ⊢
          rw [List.getElem?_take, if_pos hj']
          exact this)
        rw [List.length_take] at this
        omega
      have HS := Lib.hid hS
      have HG := Lib.hid hG
      have HT := Lib.hid hT
      have HL := Lib.hid hL
      clear hcell hS hG hT hL
      generalize hx : cs.getD k default = x at *
      obtain ⟨kk, ss, nn, tt⟩ := x
      have hm : ss.length ≤ 9223372036854775807 := by have := hok1.s; unfold maxLen at this; simp at this; omega
      have HX := Lib.hid hx
      clear hx hok1
      simp only at c0 c1 c2 c3
      have hb2 := fun o => hb.alloc hb.size o
      by_cases hg : 4096 < ss.length
      · have hg' : decide ((4096 : Int) < (ss.length : Int)) = true := by simp; omega
        go_wp2_with fail
        go_ret
        exact ⟨ret_bool (HG.out hg).symm, hb2 _⟩
      · have hg' : decide ((4096 : Int) < (ss.length : Int)) = false := by simp; omega
        go_wp2_with fail
        refine ⟨⟨k + 1, _, by omega, by go_num, rfl, ?_, ?_, hb2 _⟩, by simp [intOf]; omega⟩
        · intro h60
          have e := hz.out (by omega)
          have e2 := HT.out
          have e3 := HL.out
          simp only at e2
          rw [e, e2]
          unfold wrap64
          omega
        · intro j hj
          by_cases hjk : j = k
          · subst hjk
            rw [HX.out]
            exact Nat.le_of_not_lt hg
          · exact HS.out j hj hjk
    · obtain rfl : n = k := by omega
      have hE := greatC_end (cs := cs) (fun j hj => hsm.out j (by omega))
      rw [hvl] at hE
      by_cases h60 : 60 < n
      · have h60' : decide ((60 : Int) < (n : Int)) = true := by simp; omega
        have hE2 : greatC cs = true := by rw [hE]; simp; omega
        have HE := Lib.hid hE2
        clear hE hE2
        go_wp2_with fail
        all_goals
          go_ret
          exact ⟨ret_bool HE.out.symm, hb⟩
      · have h60' : decide ((60 : Int) < (n : Int)) = false := by simp; omega
        have hE2 : greatC cs = decide (8192 < z) := by
          have e1 : decide (60 < n) = false := by simp; omega
          rw [hE, hz.out (by omega), List.take_of_length_le (by omega), e1, Bool.false_or]
          exact decide_eq_decide.2 (by omega)
        have HE := Lib.hid hE2
        clear hE hE2
        go_wp2_with fail
        all_goals
          go_ret
          exact ⟨ret_bool HE.out.symm, hb⟩

/-- Both disks, the program's and the reference's. -/
structure Two (w : World) (base b m : Nat) (v : Value) (D : Dk) : Prop where
  dsk : Dsk w base b v D
  ref : Ref w m D
  ok : D.Ok
  lb : base ≤ b
  lm : base ≤ m
section
variable {w : World} {base b m : Nat} {v : Value} {D : Dk}
theorem Two.still {w' : World} (h : Two w base b m v D) (k : Still w w') : Two w' base b m v D := ⟨h.dsk.still k, h.ref.still k, h.ok, h.lb, h.lm⟩
theorem Two.ne (h : Two w base b m v D) : b ≠ m := fun e => by
  have h1 := h.dsk.at_
  have h2 : At w m _ _ := h.ref
  rw [← e] at h2
  have h3 := At.type_eq h1 h2
  exact absurd h3 (by decide)
theorem Two.own (h : Two w base b m v D) : v.ownBlock ≠ some m := h.dsk.bts.apart h.ref (by decide)

set_option maxRecDepth 100000 in
set_option maxHeartbeats 800000 in
theorem same_any (h2 : Two w base b m v D) :
    Calls Try.prog 11 #[.pointer (some ⟨b, 0, none⟩), .pointer (some ⟨m, 0, none⟩)] w fun e w' => e = .returned (.bool true) ∧ Still w w' := by
  have hR := h2.ref
  have hk := h2.ok
  have h3 := hk.safe
  have h4 := hk.full
  have h5 := hk.size
  have hrd := fun w' (k : Still w w') => read_any (h2.dsk.still k)
  have hdn := fun w' (k : Still w w') => down_any (h2.dsk.still k)
  have hsf := fun w' (k : Still w w') => safe_any (h2.dsk.still k)
  have hlf := fun w' (k : Still w w') => left_quiet (h2.dsk.still k) hk
  have hwl : IntKind.i64.wrap ((D.size : Int) - (D.xs.length : Int)) = ((D.size - D.xs.length : Nat) : Int) := by rw [IntKind.wrap_i64]; omega
  have hbt := fun w' (k : Still w w') => boots_any (h2.dsk.still k)
  have c0 : w.cell? ⟨m, 0, none⟩ = some (.string ⟨(D.xs.take D.safe).toArray⟩) := At.cell hR 0
  have c1 : w.cell? ⟨m, 1, none⟩ = some (.string ⟨(D.xs.drop D.safe).toArray⟩) := At.cell hR 1
  have c2 : w.cell? ⟨m, 2, none⟩ = some (.int .i64 D.size) := At.cell hR 2
  have c3 : w.cell? ⟨m, 3, none⟩ = some (.bool D.down) := At.cell hR 3
  have c4 : w.cell? ⟨m, 4, none⟩ = some (.int .i64 D.boots) := At.cell hR 4
  have la : (D.xs.take D.safe).length = D.safe := by rw [List.length_take]; omega
  have ll : (D.xs.drop D.safe).length = D.xs.length - D.safe := List.length_drop
  have hall := Lib.hid (List.take_append_drop D.safe D.xs)
  obtain ⟨a, ha⟩ : ∃ a, D.xs.take D.safe = a := ⟨_, rfl⟩
  obtain ⟨l, hl⟩ : ∃ l, D.xs.drop D.safe = l := ⟨_, rfl⟩
  rw [ha] at c0 la hall
  rw [hl] at c1 ll hall
  have hln : ¬ 9223372036854775807 < a.length + l.length := by omega
  have HA := Lib.hid ha
  clear ha hl
  unfold Dk.read at hrd
  cases hd : D.down
  · rw [hd] at c3 hdn hrd
    go_enter Try.func11, Try.ntmps11
    go_wp2_with fail
    go_quiet (fail)
    go_wp2_with fail
    rw [str_app, hall.out]
    have k2 := Still.drewN w nq
    have hR2 := h2.ref.still k2
    have hrd2 := fun n => hrd _ (k2.trans (Still.drewN _ n))
    have hdn2 := fun n => hdn _ (k2.trans (Still.drewN _ n))
    have hsf2 := fun n => hsf _ (k2.trans (Still.drewN _ n))
    have hbt2 := fun n => hbt _ (k2.trans (Still.drewN _ n))
    have hlf2 := fun n => hlf _ (k2.trans (Still.drewN _ n))
    generalize w.drewN nq = w2 at *
    clear c0 c1 c2 c3 c4 hrd hdn hsf hbt hlf
    have c0 : w2.cell? ⟨m, 0, none⟩ = some (.string ⟨(D.xs.take D.safe).toArray⟩) := At.cell hR2 0
    have c2 : w2.cell? ⟨m, 2, none⟩ = some (.int .i64 D.size) := At.cell hR2 2
    have c3 : w2.cell? ⟨m, 3, none⟩ = some (.bool D.down) := At.cell hR2 3
    have c4 : w2.cell? ⟨m, 4, none⟩ = some (.int .i64 D.boots) := At.cell hR2 4
    rw [hd] at c3
    rw [HA.out] at c0
    go_quiet (first
      | (go_at_call 18; refine Calls.quiet_of_same ((hrd2 _).mono fun _ _ h => ⟨h.1, h.2.symm⟩))
      | (go_at_call 19; refine Calls.quiet_of_same ((hdn2 _).mono fun _ _ h => ⟨h.1, h.2.symm⟩))
      | (go_at_call 20; refine Calls.quiet_of_same ((hsf2 _).mono fun _ _ h => ⟨h.1, h.2.symm⟩))
      | (go_at_call 22; refine Calls.quiet_of_same ((hbt2 _).mono fun _ _ h => ⟨h.1, h.2.symm⟩))
      | (go_at_call 21; refine Calls.quiet_of (hlf2 _)))
    go_wp2_with fail
    go_ret
    exact ⟨rfl, k2.trans (Still.drewN _ _)⟩
  · rw [hd] at c3 hdn hrd
    go_enter Try.func11, Try.ntmps11
    go_wp2_with fail
    go_quiet (fail)
    go_wp2_with fail
    rw [str_app, hall.out]
    have k2 := Still.drewN w nq
    have hR2 := h2.ref.still k2
    have hrd2 := fun n => hrd _ (k2.trans (Still.drewN _ n))
    have hdn2 := fun n => hdn _ (k2.trans (Still.drewN _ n))
    have hsf2 := fun n => hsf _ (k2.trans (Still.drewN _ n))
    have hbt2 := fun n => hbt _ (k2.trans (Still.drewN _ n))
    have hlf2 := fun n => hlf _ (k2.trans (Still.drewN _ n))
    generalize w.drewN nq = w2 at *
    clear c0 c1 c2 c3 c4 hrd hdn hsf hbt hlf
    have c0 : w2.cell? ⟨m, 0, none⟩ = some (.string ⟨(D.xs.take D.safe).toArray⟩) := At.cell hR2 0
    have c2 : w2.cell? ⟨m, 2, none⟩ = some (.int .i64 D.size) := At.cell hR2 2
    have c3 : w2.cell? ⟨m, 3, none⟩ = some (.bool D.down) := At.cell hR2 3
    have c4 : w2.cell? ⟨m, 4, none⟩ = some (.int .i64 D.boots) := At.cell hR2 4
    rw [hd] at c3
    rw [HA.out] at c0
    go_quiet (first
      | (go_at_call 18; refine Calls.quiet_of_same ((hrd2 _).mono fun _ _ h => ⟨h.1, h.2.symm⟩))
      | (go_at_call 19; refine Calls.quiet_of_same ((hdn2 _).mono fun _ _ h => ⟨h.1, h.2.symm⟩))
      | (go_at_call 20; refine Calls.quiet_of_same ((hsf2 _).mono fun _ _ h => ⟨h.1, h.2.symm⟩))
      | (go_at_call 22; refine Calls.quiet_of_same ((hbt2 _).mono fun _ _ h => ⟨h.1, h.2.symm⟩))
      | (go_at_call 21; refine Calls.quiet_of (hlf2 _)))
    go_wp2_with fail
    go_ret
    exact ⟨rfl, k2.trans (Still.drewN _ _)⟩
end
end Go.Proofs.Ytdgcjhkncokieaa
