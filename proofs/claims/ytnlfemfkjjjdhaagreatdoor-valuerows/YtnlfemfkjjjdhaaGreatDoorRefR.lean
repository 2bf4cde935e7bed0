/- The walks of the reference's Reader (layer 1). -/
import Derived.Test.YtnlfemfkjjjdhaaGreatDoorRefA
import Derived.Test.YtnlfemfkjjjdhaaGreatDoorRefM
import Derived.Deep.QuietTactic
import Derived.BigQuiet
import Derived.IntWalk
namespace Go.Proofs.YtnlfemfkjjjdhaaGreatDoor
open Go.RowKit

/-- A reference Reader at block m: its bytes, its place, whether there was a fault. -/
def Rf (w : World) (m : Nat) (l : List UInt8) (p : Nat) (bad : Bool) : Prop := At w m 51 #[.string ⟨l.toArray⟩, .int .i64 p, .bool bad]


theorem rf_bad (m : Nat) (l : List UInt8) (p : Nat) (w : World) (h : Rf w m l p true) :
    Calls Tryz.prog 52 #[.pointer (some ⟨m, 0, none⟩)] w fun e w' => e = .returned (.int .i64 0) ∧ w = w' := by
  have h2 : w.cell? ⟨m, 2, none⟩ = some (.bool true) := At.cell h 2
  go_enter Tryz.func52, Tryz.ntmps52
  go_wp2
  go_ret
  exact ⟨rfl, rfl⟩

def RfPost (w : World) (m : Nat) (l : List UInt8) (p : Nat) (e : Ending) (w' : World) : Option (Nat × Nat) → Prop
  | none => e = .returned (.int .i64 0) ∧ Rf w' m l p true ∧ w.grownBy w' (some m)
  | some (u, k) => e = .returned (.int .i64 (unzig u)) ∧ Rf w' m l (p + k) false ∧ w.grownBy w' (some m)

theorem grownBy_draws (w : World) (n : Nat) (row : Option Nat) : w.grownBy (w.drewN n) row := ⟨rfl, rfl, rfl, Nat.le_refl _, fun _ _ _ => rfl⟩
theorem At.draws {w : World} {g : Nat} {t : TypeId} {cs : Array Value} (h : At w g t cs) (n : Nat) : At (w.drewN n) g t cs := h

set_option maxHeartbeats 2000000 in
set_option maxRecDepth 100000 in
theorem rf_int (m : Nat) (l : List UInt8) (p : Nat) (w : World) (h : Rf w m l p false) (hl : l.length ≤ 1000000) (hp : p ≤ l.length) :
    Calls Tryz.prog 52 #[.pointer (some ⟨m, 0, none⟩)] w fun e w' => RfPost w m l p e w' (grp 0 0 (l.drop p)) := by
  have c0 : w.cell? ⟨m, 0, none⟩ = some (.string ⟨l.toArray⟩) := At.cell h 0
  have c1 : w.cell? ⟨m, 1, none⟩ = some (.int .i64 p) := At.cell h 1
  have c2 : w.cell? ⟨m, 2, none⟩ = some (.bool false) := At.cell h 2
  have f1 := At.unfrozen h 1
  have f2 := At.unfrozen h 2
  go_enter Tryz.func52, Tryz.ntmps52
  go_wp2_with fail
  go_loopw [3] (fun i wr => ∃ k nd : Nat, p + k ≤ l.length ∧ i = .int .i64 k ∧ Hid (∀ j, j < k → 128 ≤ (l.getD (p + j) 0).toNat) ∧ wr = w.drewN nd) (fun i _ => l.length - (p + (intOf i).toNat))
  case atStart => exact ⟨0, 0, by omega, rfl, fun j hj => absurd hj (by omega), rfl⟩
  case round =>
    obtain ⟨k, nd, hk, rfl, hall, rfl⟩ := hrel
    have w1 : IntKind.i64.wrap ((p : Int) + k) = (p : Int) + k := IntWalk.i64_in _ (by omega)
    have w2 : (0 : Int) ≤ (p : Int) + k := by omega
    have w3 : ((p : Int) + k).toNat = p + k := by omega
    by_cases hlt : p + k < l.length
    · have g1 : decide ((p : Int) + k < l.length) = true := by simp; omega
      obtain ⟨b, hbe⟩ : ∃ b, (l.getD (p + k) 0).toNat = b := ⟨_, rfl⟩
      have hix := run_index_list (P := Tryz.prog) 9 l ((p : Int) + k) (p + k) b Tryz.underlying9 (by omega) hlt hbe
      have hlt' : (p : Int) + k < l.length := by omega
      have HB := Lib.hid hbe
      clear hbe
      by_cases hb : 128 ≤ b
      · have hb1 : decide ((128 : Int) ≤ b) = true := by simp; omega
        go_wp2_with fail
        go_quiet (fail)
        go_wp2_with fail
        refine ⟨⟨k + 1, _, by omega, by go_num, fun j hj => ?_, rfl⟩, by simp [intOf]; omega⟩
        by_cases hjk : j = k
        · subst hjk; rw [HB.out]; exact hb
        · exact hall.out j (by omega)
      · have hb1 : decide ((128 : Int) ≤ b) = false := by simp; omega
        have hkr : k < (l.drop p).length := by simp; omega
        have hbd : ((l.drop p).getD k 0).toNat = b := by rw [getD_drop]; exact HB.out
        have hlead := lead_atD (l.drop p) k hkr (fun j hj => by rw [getD_drop]; exact hall.out j hj) (by omega)
        have hG : 9 < k → grp 0 0 (l.drop p) = none := fun h => grp_long _ (by omega)
        have hat := fun h9 => grp_atD (l.drop p) k b hkr hlead hbd h9
        have g2 : decide ((l.length : Int) ≤ (p : Int) + k) = false := by simp; omega
        by_cases h9 : 9 < k
        · have g3 : decide ((9 : Int) < k) = true := by simp; omega
          have HG := Lib.hid (hG h9)
          clear hG hat hlead hbd hall
          go_wp2_with fail
          go_quiet (fail)
          go_wp2_with fail
          go_quiet (fail)
          go_wp2_with fail
          go_ret
          rw [HG.out]
          exact ⟨rfl, At.put (At.draws h _) 2 _, grownBy_tr (grownBy_draws _ _ _) (grownBy_set _ _ _ _)⟩
        · have g3 : decide ((9 : Int) < k) = false := by simp; omega
          have hat9 := hat (by omega)
          have HAT := Lib.hid hat9
          have HLEN := Lib.hid hkr
          have HBD := Lib.hid hbd
          have HL := Lib.hid hlead
          clear hG hat hlead hbd hall hat9 hkr
          go_wp2_with fail
          go_quiet (fail)
          go_wp2_with fail
          go_quiet (fail)
          go_wp2_with fail
          simp only [World.drewN_drewN]
          go_loopw [4, 5] (fun u i wr => ∃ q acc nd : Nat, q ≤ k + 1 ∧ i = .int .i64 ((q : Int) - 1) ∧ u = .int .u64 acc ∧ Hid (acc = hval (((l.drop p).take (k + 1)).drop q) % 18446744073709551616) ∧ wr = w.drewN nd) (fun _ i _ => (intOf i + 1).toNat)
          case atStart =>
            refine ⟨k + 1, 0, _, by omega, by go_num, rfl, ?_, rfl⟩
            show _ = _
            rw [List.drop_eq_nil_of_le (by simp; omega)]
            rfl
          case round =>
            obtain ⟨q, acc, nd2, hq, rfl, rfl, hacc, rfl⟩ := hrel
            cases q with
            | zero =>
              have hacc0 : acc = hval ((l.drop p).take (k + 1)) % 18446744073709551616 := by simpa using hacc.out
              have HA0 := Lib.hid hacc0
              clear hacc hacc0 hq
              rw [show ((0 : Nat) : Int) - 1 = -1 by rfl]
              have w4 : IntKind.i64.wrap ((p : Int) + k + 1) = (p : Int) + k + 1 := IntWalk.i64_in _ (by omega)
              by_cases cA : k = 9 ∧ 1 < b
              · have HN := Lib.hid (show grp 0 0 (l.drop p) = none by rw [HAT.out, if_pos (.inl cA)])
                obtain ⟨k9, cA⟩ := cA
                have t1 : ((k : Int) == 9) = true := by simp; omega
                clear k9 HAT HA0
                have t2 : decide ((1 : Int) < b) = true := by simp; omega
                go_wp2_with fail
                go_quiet (fail)
                go_wp2_with fail
                go_ret
                rw [HN.out]
                exact ⟨rfl, At.put (At.draws h _) 2 _, grownBy_tr (grownBy_draws _ _ _) (grownBy_set _ _ _ _)⟩
              by_cases cB : b = 0 ∧ 0 < k
              · have HN := Lib.hid (show grp 0 0 (l.drop p) = none by rw [HAT.out, if_pos (.inr cB)])
                obtain ⟨b0, cB⟩ := cB
                have t3 : decide ((0 : Int) < k) = true := by simp; omega
                have t4 : ((b : Int) == 0) = true := by simp; omega
                have t2 : decide ((1 : Int) < b) = false := by simp; omega
                clear b0 cA HAT HA0
                by_cases k9 : k = 9
                · have t1 : ((k : Int) == 9) = true := by simp; omega
                  clear k9
                  go_wp2_with fail
                  go_quiet (fail)
                  go_wp2_with fail
                  go_ret
                  rw [HN.out]
                  exact ⟨rfl, At.put (At.draws h _) 2 _, grownBy_tr (grownBy_draws _ _ _) (grownBy_set _ _ _ _)⟩
                · have t1 : ((k : Int) == 9) = false := by simp; omega
                  go_wp2_with fail
                  go_quiet (fail)
                  go_wp2_with fail
                  go_ret
                  rw [HN.out]
                  exact ⟨rfl, At.put (At.draws h _) 2 _, grownBy_tr (grownBy_draws _ _ _) (grownBy_set _ _ _ _)⟩
              · have hsome : grp 0 0 (l.drop p) = some (hval ((l.drop p).take (k + 1)), k + 1) := by
                  rw [HAT.out, if_neg (by rintro (h1 | h1); exact cA h1; exact cB h1)]
                obtain ⟨_, _, hU⟩ := grp_ok _ 0 0 _ _ (by omega) (by simp) hsome
                have hacc1 : acc = hval ((l.drop p).take (k + 1)) := by rw [HA0.out]; exact Nat.mod_eq_of_lt hU
                rw [← hacc1] at hsome hU
                have HN := Lib.hid hsome
                clear hsome hacc1 HAT HA0
                by_cases k9 : k = 9
                · have t1 : ((k : Int) == 9) = true := by simp; omega
                  have t2 : decide ((1 : Int) < b) = false := by simp; omega
                  have t3 : decide ((0 : Int) < k) = true := by simp; omega
                  have t4 : ((b : Int) == 0) = false := by simp; omega
                  have k0 : 0 < k := by omega
                  clear k9 cA cB
                  go_wp2_with fail
                  go_quiet (fail)
                  go_wp2_with fail
                  refine (refSigned_any acc hU _).mono ?_
                  rintro e w' ⟨rfl, rfl⟩
                  go_wp2_with fail
                  go_ret
                  rw [HN.out]
                  refine ⟨rfl, ?_, grownBy_tr (grownBy_draws _ _ _) (grownBy_set _ _ _ _)⟩
                  exact At.put (At.draws h _) 1 _
                · have t1 : ((k : Int) == 9) = false := by simp; omega
                  by_cases k0 : k = 0
                  · have t3 : decide ((0 : Int) < k) = false := by simp; omega
                    have k00 : ¬ 0 < k := by omega
                    clear k0 k9 cA cB
                    go_wp2_with fail
                    go_quiet (fail)
                    go_wp2_with fail
                    refine (refSigned_any acc hU _).mono ?_
                    rintro e w' ⟨rfl, rfl⟩
                    go_wp2_with fail
                    go_ret
                    rw [HN.out]
                    refine ⟨rfl, ?_, grownBy_tr (grownBy_draws _ _ _) (grownBy_set _ _ _ _)⟩
                    exact At.put (At.draws h _) 1 _
                  · have t3 : decide ((0 : Int) < k) = true := by simp; omega
                    have t4 : ((b : Int) == 0) = false := by simp; omega
                    have k00 : 0 < k := by omega
                    clear k0 k9 cA cB
                    go_wp2_with fail
                    go_quiet (fail)
                    go_wp2_with fail
                    refine (refSigned_any acc hU _).mono ?_
                    rintro e w' ⟨rfl, rfl⟩
                    go_wp2_with fail
                    go_ret
                    rw [HN.out]
                    refine ⟨rfl, ?_, grownBy_tr (grownBy_draws _ _ _) (grownBy_set _ _ _ _)⟩
                    exact At.put (At.draws h _) 1 _
            | succ q =>
              rw [show ((q + 1 : Nat) : Int) - 1 = q by omega]
              obtain ⟨d, hde⟩ : ∃ d, (l.getD (p + q) 0).toNat = d := ⟨_, rfl⟩
              have hd256 : d < 256 := by rw [← hde]; exact UInt8.toNat_lt _
              have hix2 := run_index_list (P := Tryz.prog) 9 l ((p : Int) + q) (p + q) d Tryz.underlying9 (by omega) (by omega) hde
              have v1 : IntKind.i64.wrap ((p : Int) + q) = (p : Int) + q := IntWalk.i64_in _ (by omega)
              have v2 : (0 : Int) ≤ (p : Int) + q := by omega
              have v3 : ((p : Int) + q).toNat = p + q := by omega
              have v4 : (p : Int) + q < l.length := by omega
              have HD := Lib.hid hde
              clear hde
              go_wp2_with fail
              go_quiet (fail)
              go_wp2_with fail
              have hst := hval_step l p k q acc d HLEN.out (by omega) HD.out hacc.out
              refine ⟨⟨q, _, _, by omega, rfl, ?_, hst, rfl⟩, by simp [intOf]⟩
              congr 1
              rw [IntKind.wrap_u64, IntKind.wrap_u64]
              omega
    · have g1 : decide ((p : Int) + k < l.length) = false := by simp; omega
      have g2 : decide ((l.length : Int) ≤ (p : Int) + k) = true := by simp; omega
      have hkr : (l.drop p).length = k := by simp; omega
      have HN := Lib.hid (grp_short (l.drop p) (lead_endD _ (fun j hj => by rw [getD_drop]; exact hall.out j (by omega))))
      clear hkr hall
      go_wp2_with fail
      go_quiet (fail)
      go_wp2_with fail
      go_quiet (fail)
      go_wp2_with fail
      go_ret
      rw [HN.out]
      exact ⟨rfl, At.put (At.draws h _) 2 _, grownBy_tr (grownBy_draws _ _ _) (grownBy_set _ _ _ _)⟩

theorem rf_none (m : Nat) (l : List UInt8) (p : Nat) (w : World) (h : Rf w m l p false) (hl : l.length ≤ 1000000) (hp : p ≤ l.length) (hg : Hid (grp 0 0 (l.drop p) = none)) :
    Calls Tryz.prog 52 #[.pointer (some ⟨m, 0, none⟩)] w fun e w' => e = .returned (.int .i64 0) ∧ Rf w' m l p true ∧ w.grownBy w' (some m) :=
  (rf_int m l p w h hl hp).mono fun e w' hq => by rw [hg.out] at hq; exact hq
theorem rf_some (m : Nat) (l : List UInt8) (p : Nat) (w : World) (h : Rf w m l p false) (hl : l.length ≤ 1000000) (hp : p ≤ l.length) (u k : Nat) (n : Int) (hg : Hid (grp 0 0 (l.drop p) = some (u, k))) (hn : Hid (unzig u = n)) :
    Calls Tryz.prog 52 #[.pointer (some ⟨m, 0, none⟩)] w fun e w' => e = .returned (.int .i64 n) ∧ Rf w' m l (p + k) false ∧ w.grownBy w' (some m) :=
  (rf_int m l p w h hl hp).mono fun e w' hq => by rw [hg.out] at hq; rw [← hn.out]; exact hq

/-- The reference's Str. -/
theorem rfs_bad (m : Nat) (l : List UInt8) (p : Nat) (w : World) (h : Rf w m l p true) :
    Calls Tryz.prog 53 #[.pointer (some ⟨m, 0, none⟩)] w fun e w' => e = .returned (.string ⟨[].toArray⟩) ∧ Rf w' m l p true ∧ w.grownBy w' (some m) := by
  go_enter Tryz.func53, Tryz.ntmps53
  go_wp2_with fail
  refine (rf_bad m l p w h).mono ?_
  rintro e w1 ⟨rfl, rfl⟩
  have c2 : w.cell? ⟨m, 2, none⟩ = some (.bool true) := At.cell h 2
  have f2 := At.unfrozen h 2
  go_wp2_with fail
  go_quiet (fail)
  go_wp2_with fail
  go_ret
  exact ⟨rfl, At.put (At.draws h _) 2 _, grownBy_tr (grownBy_draws _ _ _) (grownBy_set _ _ _ _)⟩
theorem rfs_none (m : Nat) (l : List UInt8) (p : Nat) (w : World) (h : Rf w m l p false) (hl : l.length ≤ 1000000) (hp : p ≤ l.length) (hg : Hid (grp 0 0 (l.drop p) = none)) :
    Calls Tryz.prog 53 #[.pointer (some ⟨m, 0, none⟩)] w fun e w' => e = .returned (.string ⟨[].toArray⟩) ∧ Rf w' m l p true ∧ w.grownBy w' (some m) := by
  go_enter Tryz.func53, Tryz.ntmps53
  go_wp2_with fail
  refine (rf_none m l p w h hl hp hg).mono ?_
  rintro e w1 ⟨rfl, h1, hg1⟩
  have c2 : w1.cell? ⟨m, 2, none⟩ = some (.bool true) := At.cell h1 2
  have f2 := At.unfrozen h1 2
  go_wp2_with fail
  go_quiet (fail)
  go_wp2_with fail
  go_ret
  exact ⟨rfl, At.put (At.draws h1 _) 2 _, grownBy_tr hg1 (grownBy_tr (grownBy_draws _ _ _) (grownBy_set _ _ _ _))⟩
set_option maxRecDepth 100000 in
set_option maxHeartbeats 400000 in
theorem rfs_out (m : Nat) (l : List UInt8) (p q : Nat) (w : World) (h : Rf w m l p false) (hl : l.length ≤ 1000000) (hp : p ≤ l.length) (u k : Nat) (n : Int) (hg : Hid (grp 0 0 (l.drop p) = some (u, k))) (hn : Hid (unzig u = n)) (hq : Hid (p + k = q)) (hq2 : q ≤ l.length) (hbad : n < 0 ∨ (l.length : Int) - q < n) :
    Calls Tryz.prog 53 #[.pointer (some ⟨m, 0, none⟩)] w fun e w' => e = .returned (.string ⟨[].toArray⟩) ∧ Rf w' m l q true ∧ w.grownBy w' (some m) := by
  have w1 : IntKind.i64.wrap ((l.length : Int) - q) = (l.length : Int) - q := IntWalk.i64_in _ (by omega)
  by_cases hneg : n < 0
  · have t1 : decide (n < 0) = true := by simpa using hneg
    go_enter Tryz.func53, Tryz.ntmps53
    go_wp2_with fail
    refine (rf_some m l p w h hl hp u k n hg hn).mono ?_
    rintro e w1 ⟨rfl, h1, hg1⟩
    rw [hq.out] at h1
    have c0 : w1.cell? ⟨m, 0, none⟩ = some (.string ⟨l.toArray⟩) := At.cell h1 0
    have c1 : w1.cell? ⟨m, 1, none⟩ = some (.int .i64 q) := At.cell h1 1
    have c2 : w1.cell? ⟨m, 2, none⟩ = some (.bool false) := At.cell h1 2
    have f2 := At.unfrozen h1 2
    go_wp2_with fail
    go_quiet (fail)
    go_wp2_with fail
    go_ret
    exact ⟨rfl, At.put (At.draws h1 _) 2 _, grownBy_tr hg1 (grownBy_tr (grownBy_draws _ _ _) (grownBy_set _ _ _ _))⟩
  · have t1 : decide (n < 0) = false := by simpa using hneg
    have t2 : decide ((l.length : Int) - q < n) = true := by simp; omega
    have t3 : (l.length : Int) - q < n := by omega
    go_enter Tryz.func53, Tryz.ntmps53
    go_wp2_with fail
    refine (rf_some m l p w h hl hp u k n hg hn).mono ?_
    rintro e w1 ⟨rfl, h1, hg1⟩
    rw [hq.out] at h1
    have c0 : w1.cell? ⟨m, 0, none⟩ = some (.string ⟨l.toArray⟩) := At.cell h1 0
    have c1 : w1.cell? ⟨m, 1, none⟩ = some (.int .i64 q) := At.cell h1 1
    have c2 : w1.cell? ⟨m, 2, none⟩ = some (.bool false) := At.cell h1 2
    have f2 := At.unfrozen h1 2
    go_wp2_with fail
    go_quiet (fail)
    go_wp2_with fail
    go_ret
    exact ⟨rfl, At.put (At.draws h1 _) 2 _, grownBy_tr hg1 (grownBy_tr (grownBy_draws _ _ _) (grownBy_set _ _ _ _))⟩
end Go.Proofs.YtnlfemfkjjjdhaaGreatDoor
