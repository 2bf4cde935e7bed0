/- The slow decimal road: what leftShift keeps, as plain mathematics; its table in memory. -/
/- The slow decimal road: leftShift, walked. -/
import Derived.Test.YtkaeaiagmihmgaaGreatDoorQDcS
import GoSem.PinnedTables
namespace Go.Proofs.YtkaeaiagmihmgaaGreatDoor
open Go.RowKit

/-- The table of cheats, checked. -/
def cheatOk (k delta : Nat) (cut : List UInt8) : Bool :=
  decide (1 ≤ delta) && decide (10 ^ (delta - 1) ≤ 2 ^ k) && decide (2 ^ k < 10 ^ delta) && decide (1 ≤ cut.length) && decide (cut.length + delta = k + 1) && cut.all (fun b => decide (48 ≤ b.toNat) && decide (b.toNat ≤ 57)) && decide (1 ≤ cutOf cut (cut.length - 1)) && decide (dval (cutOf cut) cut.length = 5 ^ k)
def cheatsOk : Nat → Bool
  | 0 => true
  | k + 1 => cheatsOk k && (match Pinned.cheatRows[k + 1]? with | some (d, c) => cheatOk (k + 1) d c | none => false)
theorem cheats_ok : cheatsOk 60 = true := by kernel_rfl
theorem cheats_at : ∀ (n k : Nat), cheatsOk n = true → 1 ≤ k → k ≤ n → ∃ d c, Pinned.cheatRows[k]? = some (d, c) ∧ cheatOk k d c = true
  | 0, k, _, h1, h2 => by omega
  | n + 1, k, h, h1, h2 => by
    rw [cheatsOk, Bool.and_eq_true] at h
    by_cases hk : k = n + 1
    · subst hk
      cases hc : Pinned.cheatRows[n + 1]? with
      | none => rw [hc] at h; exact absurd h.2 (by simp)
      | some dc => rw [hc] at h; exact ⟨dc.1, dc.2, rfl, h.2⟩
    · exact cheats_at n k h.1 h1 (by omega)
theorem cheat_of {k d : Nat} {c : List UInt8} (h : cheatOk k d c = true) : Cheat k d (cutOf c) c.length ∧ (∀ i, i < c.length → 48 ≤ (c.getD i 0).toNat) ∧ c.length ≤ k + 1 := by
  unfold cheatOk at h
  simp only [Bool.and_eq_true, decide_eq_true_eq, List.all_eq_true] at h
  obtain ⟨⟨⟨⟨⟨⟨⟨h1, h2⟩, h3⟩, h4⟩, h5⟩, h6⟩, h7⟩, h8⟩ := h
  have hb : ∀ i, i < c.length → 48 ≤ (c.getD i 0).toNat ∧ (c.getD i 0).toNat ≤ 57 := fun i hi => by
    have := h6 (c.getD i 0) (by rw [List.getD_eq_getElem?_getD, List.getElem?_eq_getElem hi]; exact List.getElem_mem hi)
    exact this
  refine ⟨⟨h2, h3, by omega, h4, h5, fun i hi => ?_, h7, h8⟩, fun i hi => (hb i hi).1, by omega⟩
  have := hb i hi
  unfold cutOf
  omega

/-- The table lies in memory, below B. -/
def Cheats (w : World) (B : Nat) : Prop := ∃ blk off, blk < B ∧ 9 < B ∧ w.cell? ⟨9, 0, none⟩ = some (.slice (some ⟨blk, off, none⟩) 61 61) ∧
  ∀ (k d : Nat) (c : List UInt8), Pinned.cheatRows[k]? = some (d, c) → w.cell? ⟨blk, off + 2 * k, none⟩ = some (.int .i64 (d : Int)) ∧ w.cell? ⟨blk, off + 2 * k + 1, none⟩ = some (.string ⟨c.toArray⟩)
theorem Cheats.keep {w w' : World} {B : Nat} (h : Cheats w B) (k : ∀ p : Addr, p.block < B → w'.cell? p = w.cell? p) : Cheats w' B := by
  obtain ⟨blk, off, h1, h2, h3, h4⟩ := h
  exact ⟨blk, off, h1, h2, (k _ h2).trans h3, fun j d c hj => ⟨(k ⟨blk, off + 2 * j, none⟩ h1).trans (h4 j d c hj).1, (k ⟨blk, off + 2 * j + 1, none⟩ h1).trans (h4 j d c hj).2⟩⟩
theorem Cheats.grown {w w' : World} {B g : Nat} (h : Cheats w B) (hg : w.grownBy w' (some g)) (hB : B ≤ g) (hw : g < w.heap.size) : Cheats w' B :=
  h.keep fun p hp => hg.cell_far p (by omega) (by simp; omega)

/-- The first loop's state, t digits read. -/
structure L1 (F : Nat → Nat) (nd k del t n : Nat) (F' : Nat → Nat) : Prop where
  carry : dval (digOf F) (nd - t) * 2 ^ k + n = dval (digOf F) nd * 2 ^ k / 10 ^ t
  le : n ≤ 2 ^ k
  old : ∀ j, j < nd - t → F' j = F j
  new : ∀ j, nd - t + del ≤ j → j < nd + del → j < 800 → 48 ≤ F' j ∧ F' j ≤ 57
  first : 1 ≤ t → t = nd → del = 0 → F' 0 = 48 + dval (digOf F) nd * 2 ^ k / 10 ^ (nd - 1) % 10
theorem L1.start (F : Nat → Nat) (nd k del : Nat) : L1 F nd k del 0 0 F := ⟨by simp, Nat.zero_le _, fun _ _ => rfl, fun j h1 h2 _ => by omega, fun h => by omega⟩
theorem L1.prod {F : Nat → Nat} {nd k del t n : Nat} {F' : Nat → Nat} (h : L1 F nd k del t n F') (hN : Num F nd) (ht : t < nd) : (F (nd - t - 1) - 48) * 2 ^ k + n ≤ 10 * 2 ^ k := by
  have hd := hN.dig (nd - t - 1) (by omega)
  have h1 : (F (nd - t - 1) - 48) * 2 ^ k ≤ 9 * 2 ^ k := Nat.mul_le_mul_right _ (by omega)
  have := h.le
  omega
theorem L1.nums {F : Nat → Nat} {nd k del t n : Nat} {F' : Nat → Nat} (h : L1 F nd k del t n F') (hN : Num F nd) (ht : t < nd) {G : Nat → Nat}
    (hG : (∀ j, j < nd - (t + 1) → G j = F' j) ∧ (∀ j, nd - t + del ≤ j → G j = F' j) ∧ (nd - t - 1 + del < 800 → G (nd - t - 1 + del) = 48 + ((F (nd - t - 1) - 48) * 2 ^ k + n) % 10)) :
    L1 F nd k del (t + 1) (((F (nd - t - 1) - 48) * 2 ^ k + n) / 10) G := by
  have hd := hN.dig (nd - t - 1) (by omega)
  have e : nd - t = (nd - t - 1) + 1 := by omega
  have hc := h.carry
  refine ⟨?_, left_carry (by omega) h.le, fun j hj => ?_, fun j h1 h2 h3 => ?_, fun _ h1 h2 => ?_⟩
  · rw [e] at hc
    have := left_step (f := digOf F) (r := nd - t - 1) hc
    rw [show nd - (t + 1) = nd - t - 1 by omega]
    exact this
  · rw [hG.1 j hj]; exact h.old j (by omega)
  · by_cases hj : j = nd - t - 1 + del
    · subst hj
      rw [hG.2.2 h3]
      omega
    · rw [hG.2.1 j (by omega)]; exact h.new j (by omega) h2 h3
  · have e0 : nd - t - 1 = 0 := by omega
    have := hG.2.2 (by omega)
    rw [h2, e0] at this
    rw [Nat.zero_add] at this
    rw [this]
    rw [e, e0, dval_one] at hc
    rw [show nd - 1 = t by omega, ← hc]
    rfl
/-- The second loop's state. -/
structure L2 (F : Nat → Nat) (nd del v n : Nat) (F' : Nat → Nat) : Prop where
  lt : n < 10 ^ v
  ge : 1 ≤ v → 10 ^ (v - 1) ≤ n
  le : v ≤ del
  cap : n ≤ 1152921504606846976
  new : ∀ j, v ≤ j → j < nd + del → j < 800 → 48 ≤ F' j ∧ F' j ≤ 57
  first : v = 0 → 49 ≤ F' 0 ∧ (del = 0 → 2 * (F 0 - 48) ≤ F' 0 - 48)
theorem L2.start {F : Nat → Nat} {nd k delta m n : Nat} {c F' : Nat → Nat} (hN : Num F nd) (hc : Cheat k delta c m) (hk : 1 ≤ k) (hk6 : k ≤ 60) (h : L1 F nd k (more (digOf F) nd delta c m) nd n F') :
    L2 F nd (more (digOf F) nd delta c m) (more (digOf F) nd delta c m) n F' := by
  obtain ⟨h1, h2⟩ := more_spec hN.digs hc
  have hn : n = dval (digOf F) nd * 2 ^ k / 10 ^ nd := by
    have := h.carry
    rw [Nat.sub_self, show dval (digOf F) 0 = 0 from rfl, Nat.zero_mul, Nat.zero_add] at this
    exact this
  obtain ⟨e1, e2⟩ := left_end h1 h2 hn
  refine ⟨e1, e2, Nat.le_refl _, Nat.le_trans h.le (pow_le60 hk6), fun j hj h3 h4 => h.new j (by omega) h3 h4, fun h0 => ?_⟩
  have hf := h.first hN.pos rfl h0
  rw [h0] at h2
  obtain ⟨f1, f2⟩ := left_first hN.digs hk h2
  rw [f1] at hf
  have h9 : digOf F 0 = F 0 - 48 := rfl
  rw [h9] at f2
  have := hN.first
  generalize dval (digOf F) nd * 2 ^ k / 10 ^ (nd - 1) = x at hf f2
  exact ⟨by omega, fun _ => by omega⟩
theorem L2.step {F : Nat → Nat} {nd del v n : Nat} {F' : Nat → Nat} (h : L2 F nd del v n F') (hn : 0 < n) : 1 ≤ v ∧ L2 F nd del (v - 1) (n / 10) (upd F' (v - 1) (48 + n % 10)) := by
  obtain ⟨h1, h2, h3⟩ := left_out h.lt h.ge hn
  have hle := h.le
  have hcap := h.cap
  refine ⟨h1, ⟨h2, h3, by omega, by omega, fun j hj h4 h5 => ?_, fun h0 => ?_⟩⟩
  · by_cases hjv : j = v - 1
    · subst hjv; rw [upd_same]; omega
    · rw [upd_other F' _ hjv]; exact h.new j (by omega) h4 h5
  · rw [h0, upd_same]
    have hv : v = 1 := by omega
    have hlt := h.lt
    rw [hv] at hlt
    exact ⟨by omega, fun e => by omega⟩
theorem L2.done {F : Nat → Nat} {nd del v n : Nat} {F' : Nat → Nat} (h : L2 F nd del v n F') (hn : n = 0) : v = 0 := by
  rcases Nat.eq_zero_or_pos v with h0 | h0
  · exact h0
  · have := h.ge h0
    have := Nat.pow_pos (n := v - 1) (show 0 < 10 by omega)
    omega
theorem more_le {k delta m : Nat} {c f : Nat → Nat} {nd : Nat} (hc : Cheat k delta c m) (hk : k ≤ 60) : delta ≤ 20 ∧ more f nd delta c m ≤ delta := by
  have h6 := pow_le60 hk
  refine ⟨ten_small hc.lo (by omega), ?_⟩
  unfold more
  split <;> omega
end Go.Proofs.YtkaeaiagmihmgaaGreatDoor

namespace Go.Proofs.YtkaeaiagmihmgaaGreatDoor
open Go.RowKit

set_option maxRecDepth 100000 in
set_option maxHeartbeats 1600000 in
theorem leftShift_any (w : World) (B g : Nat) (hT : Cheats w B) (F : Nat → Nat) (nd : Nat) (dp : Int) (neg trunc : Bool) (hDec : Dec w g F nd dp neg trunc) (hN : Num F nd) (k : Nat) (hk1 : 1 ≤ k) (hk : k ≤ 60) (hdp : -100000000 ≤ dp ∧ dp ≤ 100000000) :
    Calls Tryz.prog 100 #[.pointer (some ⟨g, 0, none⟩), .int .u64 k] w fun e w' => e = .returned (.tuple #[]) ∧ ∃ (F' : Nat → Nat) (n del : Nat) (tr : Bool),
      Dec w' g F' n (dp + del) neg tr ∧ Num F' n ∧ del ≤ 20 ∧ (del = 0 → 2 * (F 0 - 48) ≤ F' 0 - 48) ∧ w.grownBy w' (some g) := by
  have h6 := pow_le60 hk
  have hle := hN.le
  have hpos := hN.pos
  obtain ⟨blk, off, hblk, hG6, t0, t1⟩ := hT
  obtain ⟨delta, cut, hrow, hok⟩ := cheats_at 60 k cheats_ok hk1 hk
  obtain ⟨hCh, hcut, hcl⟩ := cheat_of hok
  obtain ⟨t2, t3⟩ := t1 k delta cut hrow
  have c0 := hDec.cN
  have hk61 : (k : Int) < 61 := by omega
  have hle1 : (nd : Int) ≤ 800 := by omega
  rw [Nat.mul_comm 2 k] at t2 t3
  have hpre := fun W (h : Dec W g F nd dp neg trunc) => prefix_any W g F nd dp neg trunc h hN cut hcut (by omega)
  obtain ⟨bf, hbf⟩ : ∃ b, before (digOf F) nd (cutOf cut) cut.length cut.length 0 = b := ⟨_, rfl⟩
  have hm : more (digOf F) nd delta (cutOf cut) cut.length = if bf then delta - 1 else delta := by unfold more; rw [hbf]
  rw [hbf] at hpre
  have HPRE := Lib.hid fun q => hpre (w.drewN q) (hDec.keep rfl)
  obtain ⟨hd20, hmle⟩ := more_le (f := digOf F) (nd := nd) hCh hk
  have hone := hCh.one
  obtain ⟨del, hdel⟩ : ∃ d, more (digOf F) nd delta (cutOf cut) cut.length = d := ⟨_, rfl⟩
  rw [hdel] at hm hmle
  have HCH := Lib.hid hCh
  have HDL := Lib.hid hdel
  clear t1 hrow hok hbf hpre hCh hcut hcl hdel
  go_enter Tryz.func100, Tryz.ntmps100
  go_wp2_with fail
  go_quiet ((go_at_call 120; refine Calls.quiet_of (HPRE.out _)))
  have hD1 : Dec (w.drewN nq) g F nd dp neg trunc := hDec.keep rfl
  have hG1 := grown_drew w nq (some g)
  clear hDec t0 t2 t3 HPRE c0
  generalize w.drewN nq = w1 at *
  have c0 := hD1.cN
  have y1 : IntKind.i64.wrap ((delta : Int) - 1) = ((delta - 1 : Nat) : Int) := by rw [IntKind.wrap_i64]; omega
  go_upto_if 30 with fail
  go_cut [4] (fun dv wx => dv = .int .i64 (del : Int) ∧ wx = w1)
  case first =>
    cases bf with
    | true =>
      have e : del = delta - 1 := by simpa using hm
      go_wp2_with fail
      go_meet
      case rel => exact ⟨by rw [e], rfl⟩
    | false =>
      have e : del = delta := by simpa using hm
      go_wp2_with fail
      go_meet
      case rel => exact ⟨by rw [e], rfl⟩
  case rest =>
  obtain ⟨rfl, rfl⟩ := hcut
  clear hm y1
  have y1 : IntKind.i64.wrap ((nd : Int) + (del : Int)) = ((nd + del : Nat) : Int) := by rw [IntKind.wrap_i64]; omega
  have y2 : IntKind.i64.wrap ((nd : Int) - 1) = (nd : Int) - 1 := by rw [IntKind.wrap_i64]; omega
  have HST := Lib.hid (L1.start F nd k del)
  obtain ⟨u0, hu0⟩ : ∃ u, nd + del = u := ⟨_, rfl⟩
  rw [hu0] at y1
  have hK2 := pow_two hk1
  obtain ⟨K, hK⟩ : ∃ K, 2 ^ k = K := ⟨_, rfl⟩
  go_upto_block 0 with fail
  go_cut [5, 6, 7] (fun rv uv nv wx => ∃ (n : Nat) (F' : Nat → Nat) (tr : Bool), uv = .int .i64 (del : Int) ∧ nv = .int .u64 (n : Int) ∧ Hid (L2 F nd del del n F') ∧ Dec wx g F' nd dp neg tr ∧ w.grownBy wx (some g))
  case first =>
    go_wp2_with fail
    go_loopw [5, 6, 7] (fun rv uv nv wr => ∃ (m : Int) (v t n : Nat) (F' : Nat → Nat) (tr : Bool), rv = .int .i64 m ∧ uv = .int .i64 (v : Int) ∧ nv = .int .u64 (n : Int) ∧ t ≤ nd ∧ Hid (m = (nd : Int) - 1 - t ∧ v = nd - t + del) ∧ Hid (L1 F nd k del t n F') ∧ Dec wr g F' nd dp neg tr ∧ w.grownBy wr (some g)) (fun rv _ _ _ => (intOf rv + 1).toNat)
    case atStart => exact ⟨(nd : Int) - 1, u0, 0, 0, F, trunc, rfl, rfl, rfl, by omega, Lib.hid ⟨by omega, by omega⟩, HST, hD1, hG1⟩
    case round =>
      clear HST hD1 hG1 c0 y1 y2
      obtain ⟨m, v, t, n, F', tr, rfl, rfl, rfl, ht, hmv, hS, hD, hG⟩ := hrel
      by_cases htn : t < nd
      · obtain ⟨r, hr⟩ : ∃ r, nd - t - 1 = r := ⟨_, rfl⟩
        obtain rfl : m = (r : Int) := by have := hmv.out.1; omega
        have hv : v = r + 1 + del := by have := hmv.out.2; omega
        have hcr : wr.cell? ⟨g, r, none⟩ = _ := hD.cell (i := r) (by omega)
        rw [hS.out.old r (by omega)] at hcr
        have hcd := hN.dig r (by omega)
        have hpr := hS.out.prod hN htn
        have hnx := fun G => hS.out.nums (G := G) hN htn
        rw [hr, hK] at hpr
        simp only [hr, hK] at hnx
        have hnl := hS.out.le
        rw [hK] at hnl
        have hold : ∀ x, ∀ j, j < nd - (t + 1) → upd F' (r + del) x j = F' j := fun x j hj => upd_other F' x (by omega)
        have hfar : ∀ x, ∀ j, nd - t + del ≤ j → upd F' (r + del) x j = F' j := fun x j hj => upd_other F' x (by omega)
        obtain ⟨c, hc⟩ : ∃ c, F r = c := ⟨_, rfl⟩
        rw [hc] at hcr hcd hpr hnx
        obtain ⟨d, e0⟩ : ∃ d, c - 48 = d := ⟨_, rfl⟩
        rw [e0] at hpr hnx
        obtain ⟨p, e1⟩ : ∃ p, d * K = p := ⟨_, rfl⟩
        rw [e1] at hpr hnx
        obtain ⟨x, e2⟩ : ∃ x, p + n = x := ⟨_, rfl⟩
        rw [e2] at hpr hnx
        obtain ⟨z, e3⟩ : ∃ z, x / 10 = z := ⟨_, rfl⟩
        rw [e3] at hnx
        obtain ⟨zt, e4⟩ : ∃ y, 10 * z = y := ⟨_, rfl⟩
        obtain ⟨rem, e5⟩ : ∃ y, x % 10 = y := ⟨_, rfl⟩
        rw [e5] at hnx
        obtain ⟨e8, e6⟩ : ∃ y, rem + 48 = y := ⟨_, rfl⟩
        obtain ⟨v1, e7⟩ : ∃ y, r + del = y := ⟨_, rfl⟩
        rw [e7] at hnx hold hfar
        have x0 : IntKind.u64.wrap (c : Int) = (c : Int) := by rw [IntKind.wrap_u64]; omega
        have x1 : IntKind.u64.wrap ((c : Int) - 48) = (d : Int) := by rw [IntKind.wrap_u64]; omega
        have x2 : IntKind.u64.wrap ((d : Int) * 2 ^ k) = (p : Int) := by
          have e : ((d : Int) * 2 ^ k) = ((d * 2 ^ k : Nat) : Int) := by rw [Int.natCast_mul, Int.natCast_pow]; rfl
          rw [e, hK, e1, IntKind.wrap_u64]; omega
        have x3 : IntKind.u64.wrap ((n : Int) + (p : Int)) = (x : Int) := by rw [IntKind.wrap_u64]; omega
        have x4 : (x : Int) / 10 = (z : Int) := by omega
        have x5 : IntKind.u64.wrap (10 * (z : Int)) = (zt : Int) := by rw [IntKind.wrap_u64]; omega
        have x6 : IntKind.u64.wrap ((x : Int) - (zt : Int)) = (rem : Int) := by rw [IntKind.wrap_u64]; omega
        have x7 : IntKind.u64.wrap ((rem : Int) + 48) = (e8 : Int) := by rw [IntKind.wrap_u64]; omega
        have x8 : IntKind.u8.wrap (e8 : Int) = (e8 : Int) := by rw [IntKind.wrap_u8]; omega
        have x9 : IntKind.i64.wrap ((v : Int) - 1) = (v1 : Int) := by rw [IntKind.wrap_i64]; omega
        have xa : IntKind.i64.wrap ((r : Int) - 1) = (r : Int) - 1 := by rw [IntKind.wrap_i64]; omega
        have xw : IntKind.u64.wrap (z : Int) = (z : Int) := by rw [IntKind.wrap_u64]; omega
        have hr8 : (r : Int) < 800 := by omega
        have HV := Lib.hid (show ((r : Int) - 1 = (nd : Int) - 1 - ((t + 1 : Nat) : Int) ∧ v1 = nd - (t + 1) + del) from ⟨by omega, by omega⟩)
        have hE : e8 = 48 + rem := by omega
        by_cases hv8 : v1 < 800
        · have q1 : decide ((v1 : Int) < 800) = true := by simp; omega
          have hv8' : (v1 : Int) < 800 := by omega
          have HST := Lib.hid (hnx (upd F' v1 e8) ⟨hold e8, hfar e8, fun _ => by rw [upd_same, hE]⟩)
          have hci : wr.cell? ⟨g, v1, none⟩ = _ := hD.cell (i := v1) hv8
          have hfi := hD.unfrozen v1
          have hD2 := hD.putD hv8 e8
          have hG2 := grownBy_tr hG (grown_put wr g v1 (.int .u8 (e8 : Int)))
          clear hnx hold hfar e0 e1 e2 e3 e4 e5 e6 e7 hE hpr hnl hc hcd hv
          go_wp2_with fail
          exact ⟨⟨(r : Int) - 1, v1, t + 1, z, upd F' v1 e8, tr, rfl, rfl, rfl, by omega, HV, HST, hD2, hG2⟩, by simp [intOf]⟩
        · have q1 : decide ((v1 : Int) < 800) = false := by simp; omega
          have hv8' : ¬ (v1 : Int) < 800 := by omega
          have HST := Lib.hid (hnx F' ⟨fun _ _ => rfl, fun _ _ => rfl, fun h => absurd h hv8⟩)
          by_cases hz : rem = 0
          · have q2 : ((rem : Int) == 0) = true := by simp [hz]
            have q3 : ((rem : Int) != 0) = false := by simp [hz]
            clear hnx hold hfar e0 e1 e2 e3 e4 e5 e6 e7 hE hpr hnl hc hcd hv hz
            go_wp2_with fail
            exact ⟨⟨(r : Int) - 1, v1, t + 1, z, F', tr, rfl, rfl, rfl, by omega, HV, HST, hD, hG⟩, by simp [intOf]⟩
          · have q2 : ((rem : Int) == 0) = false := by simp; omega
            have q3 : ((rem : Int) != 0) = true := by simp; omega
            have hct := hD.cT
            have hft := hD.unfrozen 803
            have hD2 := hD.putTrunc true
            have hG2 := grownBy_tr hG (grown_put wr g 803 (.bool true))
            clear hnx hold hfar e0 e1 e2 e3 e4 e5 e6 e7 hE hpr hnl hc hcd hv hz
            go_wp2_with fail
            exact ⟨⟨(r : Int) - 1, v1, t + 1, z, F', true, rfl, rfl, rfl, by omega, HV, HST, hD2, hG2⟩, by simp [intOf]⟩
      · obtain rfl : t = nd := by omega
        have hm1 : m < 0 := by have := hmv.out.1; omega
        have q0 : decide ((0 : Int) ≤ m) = false := by simp; omega
        obtain rfl : v = del := by have := hmv.out.2; omega
        have h2 := L2.start (k := k) hN HCH.out hk1 hk (by rw [HDL.out]; exact hS.out)
        rw [HDL.out] at h2
        have H2 := Lib.hid h2
        clear h2
        go_wp2_with fail
        go_meet
        case rel => exact ⟨n, F', tr, rfl, rfl, H2, hD, hG⟩
  case rest =>
    obtain ⟨n, F', tr, rfl, rfl, hS, hD, hG⟩ := hcut
    clear HST hD1 hG1 c0 y2
    go_wp2_with fail
    go_loopw [6, 7] (fun uv nv wr => ∃ (v n : Nat) (F' : Nat → Nat), uv = .int .i64 (v : Int) ∧ nv = .int .u64 (n : Int) ∧ Hid (L2 F nd del v n F') ∧ Dec wr g F' nd dp neg tr ∧ w.grownBy wr (some g)) (fun uv _ _ => (intOf uv).toNat)
    case atStart => exact ⟨del, n, F', rfl, rfl, hS, hD, hG⟩
    case round =>
      clear hS hD hG
      obtain ⟨v, n, F', rfl, rfl, hS, hD, hG⟩ := hrel
      have hvd := hS.out.le
      by_cases hn0 : 0 < n
      · have q0 : decide ((0 : Int) < (n : Int)) = true := by simp; omega
        obtain ⟨hv1, hnx⟩ := hS.out.step hn0
        have hnb := hS.out.cap
        obtain ⟨z, e3⟩ : ∃ z, n / 10 = z := ⟨_, rfl⟩
        obtain ⟨zt, e4⟩ : ∃ y, 10 * z = y := ⟨_, rfl⟩
        obtain ⟨rem, e5⟩ : ∃ y, n % 10 = y := ⟨_, rfl⟩
        obtain ⟨e8, e6⟩ : ∃ y, 48 + rem = y := ⟨_, rfl⟩
        obtain ⟨v1, e7⟩ : ∃ y, v - 1 = y := ⟨_, rfl⟩
        rw [e3, e5, e6, e7] at hnx
        have x4 : (n : Int) / 10 = (z : Int) := by omega
        have x5 : IntKind.u64.wrap (10 * (z : Int)) = (zt : Int) := by rw [IntKind.wrap_u64]; omega
        have x6 : IntKind.u64.wrap ((n : Int) - (zt : Int)) = (rem : Int) := by rw [IntKind.wrap_u64]; omega
        have x7 : IntKind.u64.wrap ((rem : Int) + 48) = (e8 : Int) := by rw [IntKind.wrap_u64]; omega
        have x8 : IntKind.u8.wrap (e8 : Int) = (e8 : Int) := by rw [IntKind.wrap_u8]; omega
        have x9 : IntKind.i64.wrap ((v : Int) - 1) = (v1 : Int) := by rw [IntKind.wrap_i64]; omega
        have xw : IntKind.u64.wrap (z : Int) = (z : Int) := by rw [IntKind.wrap_u64]; omega
        have hv8 : v1 < 800 := by omega
        have q1 : decide ((v1 : Int) < 800) = true := by simp; omega
        have hv8' : (v1 : Int) < 800 := by omega
        have hvv : v1 < v := by omega
        have HST := Lib.hid hnx
        have hci : wr.cell? ⟨g, v1, none⟩ = _ := hD.cell (i := v1) hv8
        have hfi := hD.unfrozen v1
        have hD2 := hD.putD hv8 e8
        have hG2 := grownBy_tr hG (grown_put wr g v1 (.int .u8 (e8 : Int)))
        clear hnx e3 e4 e5 e6 e7 hnb
        go_wp2_with fail
        exact ⟨⟨v1, z, upd F' v1 e8, rfl, rfl, HST, hD2, hG2⟩, by simp [intOf]; omega⟩
      · have q0 : decide ((0 : Int) < (n : Int)) = false := by simp; omega
        have hn0' : ¬ (0 : Int) < (n : Int) := by omega
        obtain rfl : v = 0 := hS.out.done (by omega)
        obtain ⟨f1, f2⟩ := hS.out.first rfl
        have HNW := Lib.hid hS.out.new
        have HF2 := Lib.hid f2
        have hF0 : F' 0 ≠ 48 := by omega
        have c0 := hD.cN
        have g0 := hD.unfrozen 800
        obtain ⟨d2, hd2⟩ : ∃ d : Int, dp + (del : Int) = d := ⟨_, rfl⟩
        have yd : IntKind.i64.wrap (dp + (del : Int)) = d2 := by rw [IntKind.wrap_i64]; omega
        have hD1 := hD.putNd (u0 : Int)
        have hG1 := grownBy_tr hG (grown_put wr g 800 (.int .i64 (u0 : Int)))
        have HD2 := Lib.hid hd2
        have HU := Lib.hid hu0
        clear hS hd2 hu0 f2
        by_cases hu8 : 800 ≤ u0
        · have q1 : decide ((800 : Int) ≤ (u0 : Int)) = true := by simp; omega
          have hu8' : (800 : Int) ≤ (u0 : Int) := by omega
          have hD2 := hD1.putNd 800
          have hG2 := grownBy_tr hG1 (grown_put _ g 800 (.int .i64 800))
          have hD3 := hD2.putDp d2
          have hG3 := grownBy_tr hG2 (grown_put _ g 801 (.int .i64 d2))
          have c1 := hD.cP
          have g1 := hD.unfrozen 801
          go_wp2_with fail
          refine (trim_any _ g F' 800 d2 neg tr hD3 (by omega) (by omega) hF0).mono ?_
          rintro e w9 ⟨rfl, m, hm1, hm2, hD9, hG9⟩
          go_wp2_with fail
          go_end0
          refine ⟨rfl, F', m, del, tr, ?_, ⟨hm1, by omega, fun j hj => HNW.out j (by omega) (by have := HU.out; omega) (by omega), f1⟩, by omega, HF2.out, grownBy_tr hG3 hG9⟩
          rw [HD2.out]; exact hD9
        · have q1 : decide ((800 : Int) ≤ (u0 : Int)) = false := by simp; omega
          have hu8' : ¬ (800 : Int) ≤ (u0 : Int) := by omega
          have hD3 := hD1.putDp d2
          have hG3 := grownBy_tr hG1 (grown_put _ g 801 (.int .i64 d2))
          have c1 := hD.cP
          have g1 := hD.unfrozen 801
          go_wp2_with fail
          refine (trim_any _ g F' u0 d2 neg tr hD3 (by omega) (by have := HU.out; omega) hF0).mono ?_
          rintro e w9 ⟨rfl, m, hm1, hm2, hD9, hG9⟩
          go_wp2_with fail
          go_end0
          refine ⟨rfl, F', m, del, tr, ?_, ⟨hm1, by omega, fun j hj => HNW.out j (by omega) (by have := HU.out; omega) (by omega), f1⟩, by omega, HF2.out, grownBy_tr hG3 hG9⟩
          rw [HD2.out]; exact hD9
end Go.Proofs.YtkaeaiagmihmgaaGreatDoor
