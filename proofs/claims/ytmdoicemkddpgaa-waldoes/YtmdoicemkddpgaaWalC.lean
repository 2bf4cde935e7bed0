/- The walks of package wal on a log: Open, Add, Force, Room, Len; a log that is nil. -/
import Derived.Test.YtmdoicemkddpgaaWalB
import Derived.OwnWalk
namespace Go.Proofs.Ytmdoicemkddpgaa
open Go.RowKit

/-- Nothing that was there has turned but the blocks b, m and v's own row; v' lies in that row or in a new one. -/
structure Moved (w : World) (b m : Nat) (v : Value) (w' : World) (v' : Value) : Prop where
  os : w'.os = w.os
  tape : w'.tape = w.tape
  output : w'.output = w.output
  size : w.heap.size ≤ w'.heap.size
  block : ∀ k, k < w.heap.size → k ≠ b → k ≠ m → some k ≠ v.ownBlock → w'.heap[k]? = w.heap[k]?
  lies : ∀ g, v'.ownBlock = some g → v.ownBlock = some g ∨ w.heap.size ≤ g
section
variable {w w' w2 : World} {base b m : Nat} {v v' v2 : Value} {D : Dk}
theorem Moved.refl (w : World) (b m : Nat) (v : Value) : Moved w b m v w v := ⟨rfl, rfl, rfl, Nat.le_refl _, fun _ _ _ _ _ => rfl, fun _ h => .inl h⟩
theorem Moved.trans (h : Moved w b m v w' v') (k : Moved w' b m v' w2 v2) : Moved w b m v w2 v2 := by
  refine ⟨k.os.trans h.os, k.tape.trans h.tape, k.output.trans h.output, Nat.le_trans h.size k.size, fun i hi h1 h2 h3 => ?_, fun g hg => ?_⟩
  · refine (k.block i (Nat.lt_of_lt_of_le hi h.size) h1 h2 ?_).trans (h.block i hi h1 h2 h3)
    intro e
    rcases h.lies i e.symm with e' | e'
    · exact h3 e'.symm
    · omega
  · rcases k.lies g hg with e | e
    · exact h.lies g e
    · exact .inr (Nat.le_trans h.size e)
theorem Moved.of_disk (h : Wgrew w b v w' v') : Moved w b m v w' v' := ⟨h.os, h.tape, h.output, h.size, fun k hk h1 _ h3 => h.block k hk h1 h3, h.lies⟩
theorem Moved.of_below (h : Below w.heap.size w w') : Moved w b m v w' v := ⟨h.os, h.tape, h.output, h.size, fun k hk _ _ _ => h.block k hk, fun _ h => .inl h⟩
theorem Moved.set {i : Nat} {u : Value} : Moved w b m v (w.setCell ⟨m, i, none⟩ u) v := ⟨rfl, rfl, rfl, by simp [World.setCell], fun _ _ _ h _ => Below.heap_setCell _ _ _ _ h, fun _ h => .inl h⟩
theorem Wgrew.of_below (h : Below w.heap.size w w') : Wgrew w b v w' v := ⟨h.os, h.tape, h.output, h.size, fun k hk _ _ => h.block k hk, fun _ h => .inl h⟩
theorem Wgrew.alloc (o : Obj) : Wgrew w b v (w.alloc o) v := ⟨rfl, rfl, rfl, by simp, fun k hk _ _ => Below.heap_alloc w o k hk, fun _ h => .inl h⟩
theorem Dsk.fresh (h : Dsk w base b v D) (hb : Below w.heap.size w w') : Dsk w' base b v D := h.below hb h.at_.lt (fun g hg => (h.bts.lt g hg).2)
end

/-- The log at block L, c records by its own count, on the disk D at block b. -/
structure Lg (w : World) (base L b : Nat) (v : Value) (D : Dk) (c : Nat) : Prop where
  log : At w L 53 #[.pointer (some ⟨b, 0, none⟩), .int .i64 c]
  dsk : Dsk w base b v D
  ok : D.Ok
  lb : base ≤ b
  ll : base ≤ L
section
variable {w w' : World} {base L b c : Nat} {v v' : Value} {D D' : Dk}
theorem Lg.still (h : Lg w base L b v D c) (k : Still w w') : Lg w' base L b v D c := ⟨k.at_ h.log, h.dsk.still k, h.ok, h.lb, h.ll⟩
theorem Lg.ne (h : Lg w base L b v D c) : L ≠ b := fun e => by
  have h1 := h.dsk.at_
  rw [← e] at h1
  exact absurd (At.type_eq h.log h1) (by decide)
theorem Lg.own (h : Lg w base L b v D c) : v.ownBlock ≠ some L := h.dsk.bts.apart h.log (by decide)
theorem Lg.fresh (h : Lg w base L b v D c) (hb : Below w.heap.size w w') : Lg w' base L b v D c := ⟨h.log.below hb h.log.lt, h.dsk.fresh hb, h.ok, h.lb, h.ll⟩
/-- The disk has moved, the log not. -/
theorem Lg.moved (h : Lg w base L b v D c) (k : Wgrew w b v w' v') (hD : Dsk w' base b v' D') (hk : D'.Ok) : Lg w' base L b v' D' c :=
  ⟨k.at_ h.log h.ne h.own, hD, hk, h.lb, h.ll⟩
theorem Moved.below (h : Moved w b L v w' v') (hL : Lg w base L b v D c) {B : Nat} (hB : B ≤ base) (hs : base ≤ w.heap.size) : Below B w w' :=
  ⟨h.os, h.tape, h.output, h.size, fun k hk => h.block k (by omega) (by have := hL.lb; omega) (by have := hL.ll; omega) (fun e => by have := (hL.dsk.bts.lt k e.symm).1; omega)⟩
theorem Wgrew.below' (h : Wgrew w b v w' v') (hD : Dsk w base b v D) (lb : base ≤ b) {B : Nat} (hB : B ≤ base) (hs : base ≤ w.heap.size) : Below B w w' :=
  h.below (by omega) (by omega) (fun g hg => by have := (hD.bts.lt g hg).1; omega)

/-- What Add says, and what becomes of the disk. -/
def Dk.add (D : Dk) (s : List UInt8) : Nat × Dk := if D.down then (7, D) else if 65535 < s.length then (3, D) else D.append (frameOf s)
theorem add_ok (h : D.Ok) (s : List UInt8) : (D.add s).2.Ok := by
  unfold Dk.add
  split
  · exact h
  · split
    · exact h
    · exact append_ok h _

set_option maxRecDepth 100000 in
set_option maxHeartbeats 400000 in
theorem add_any (h : Lg w base L b v D c) (hc : c < 1000000) (s : List UInt8) (hs : s.length ≤ maxLen) (hb : base ≤ w.heap.size) :
    Calls Try.prog 13 #[.pointer (some ⟨L, 0, none⟩), .string ⟨s.toArray⟩] w fun e w' => e = .returned (.int .i64 ((D.add s).1 : Nat)) ∧ ∃ v', Lg w' base L b v' (D.add s).2 (if (D.add s).1 = 0 then c + 1 else c) ∧ Moved w b L v w' v' := by
  unfold maxLen at hs
  have c0 : w.cell? ⟨L, 0, none⟩ = some (.pointer (some ⟨b, 0, none⟩)) := At.cell h.log 0
  have hdn := down_any h.dsk
  unfold Dk.add
  cases hd : D.down
  · rw [if_neg Bool.false_ne_true]
    rw [hd] at hdn
    by_cases hl : 65535 < s.length
    · rw [if_pos hl, if_neg (show ¬ (3 = 0) by decide)]
      have hl' : decide ((65535 : Int) < (s.length : Int)) = true := by simp; omega
      go_enter Try.func13, Try.ntmps13
      go_wp2_with fail
      refine hdn.mono ?_
      rintro e w' ⟨rfl, rfl⟩
      go_wp2_with fail
      go_ret
      exact ⟨rfl, v, h, Moved.refl _ _ _ _⟩
    · rw [if_neg hl]
      have hl' : decide ((65535 : Int) < (s.length : Int)) = false := by simp; omega
      have hl2 : ¬ (65535 : Int) < (s.length : Int) := by omega
      have hfr := fun w => frame_any s (by omega) w
      have hd0 := h.still (Still.drew w)
      have hap := fun w1 (k : Below w.drew.heap.size w.drew w1) => append_any (hd0.fresh k).dsk h.ok (frameOf s) (Nat.le_trans hb k.size)
      have hfl := frameOf_length s
      obtain ⟨f, hf⟩ : ∃ f, frameOf s = f := ⟨_, rfl⟩
      rw [hf] at hfr hap hfl ⊢
      clear hf
      have S0 := c0
      have Sd : w.drew.cell? ⟨L, 0, none⟩ = some (.pointer (some ⟨b, 0, none⟩)) := c0
      by_cases hx : D.size < D.xs.length + f.length
      · have hA : D.append f = (6, D) := by unfold Dk.append; rw [hd, if_neg Bool.false_ne_true, if_pos hx]
        rw [hA] at hap ⊢
        rw [if_neg (show ¬ (6 = 0) by decide)]
        go_enter Try.func13, Try.ntmps13
        go_wp2_with fail
        refine hdn.mono ?_
        rintro e w' ⟨rfl, rfl⟩
        go_wp2_with fail
        go_region_held3 (fun w' => w'.cell? ⟨L, 0, none⟩ = some (.pointer (some ⟨b, 0, none⟩))) (first | exact S0 | exact Sd | exact S1 | exact S2)
          (first
            | (go_at_call 29; refine (hfr _).mono ?_; rintro e w1 ⟨rfl, hb1⟩; have hL1 := hd0.fresh hb1; have S1 : w1.cell? ⟨L, 0, none⟩ = some (.pointer (some ⟨b, 0, none⟩)) := At.cell hL1.log 0)
            | (go_at_call 28; refine (hap _ hb1).mono ?_; rintro e w2 ⟨rfl, v2, hD2, hG2⟩; have hL2 := hL1.moved hG2 hD2 hL1.ok; have S2 : w2.cell? ⟨L, 0, none⟩ = some (.pointer (some ⟨b, 0, none⟩)) := At.cell hL2.log 0))
        all_goals
          go_wp2_with fail
          go_ret
          exact ⟨rfl, v2, hL2, ((Moved.of_disk (Wgrew.still (Still.drew w))).trans (Moved.of_below hb1)).trans (Moved.of_disk hG2)⟩
      · have hA : D.append f = (0, { D with xs := D.xs ++ f }) := by unfold Dk.append; rw [hd, if_neg Bool.false_ne_true, if_neg hx]
        have hk2 := append_ok h.ok f
        rw [hA] at hap hk2 ⊢
        rw [if_pos rfl]
        simp only at hap hk2
        obtain ⟨D2, hD2e⟩ : ∃ D2 : Dk, { D with xs := D.xs ++ f } = D2 := ⟨_, rfl⟩
        simp only [hd] at hD2e hap hk2 ⊢
        rw [hD2e] at hap hk2 ⊢
        go_enter Try.func13, Try.ntmps13
        go_wp2_with fail
        refine hdn.mono ?_
        rintro e w' ⟨rfl, rfl⟩
        go_wp2_with fail
        go_region_held3 (fun w' => w'.cell? ⟨L, 0, none⟩ = some (.pointer (some ⟨b, 0, none⟩))) (first | exact S0 | exact Sd | exact S1 | exact S2)
          (first
            | (go_at_call 29; refine (hfr _).mono ?_; rintro e w1 ⟨rfl, hb1⟩; have hL1 := hd0.fresh hb1; have S1 : w1.cell? ⟨L, 0, none⟩ = some (.pointer (some ⟨b, 0, none⟩)) := At.cell hL1.log 0)
            | (go_at_call 28; refine (hap _ hb1).mono ?_; rintro e w2 ⟨rfl, v2, hD2, hG2⟩; have hL2 := hL1.moved hG2 hD2 hk2; have S2 : w2.cell? ⟨L, 0, none⟩ = some (.pointer (some ⟨b, 0, none⟩)) := At.cell hL2.log 0))
        all_goals
          have c2 : w2.cell? ⟨L, 1, none⟩ = some (.int .i64 c) := At.cell hL2.log 1
          have f2 := At.unfrozen hL2.log 1
          have p2 := hL2.log.put 1 (.int .i64 ((c + 1 : Nat) : Int))
          have hd2 : Dsk (w2.setCell ⟨L, 1, none⟩ (.int .i64 ((c + 1 : Nat) : Int))) base b v2 D2 := ⟨hL2.dsk.at_.elsewhere (p := ⟨L, 1, none⟩) (fun e => hL2.ne e.symm) _, hL2.dsk.bts.far (p := ⟨L, 1, none⟩) hL2.own _⟩
          go_wp2_with fail
          go_ret
          exact ⟨rfl, v2, ⟨p2, hd2, hk2, h.lb, h.ll⟩, (((Moved.of_disk (Wgrew.still (Still.drew w))).trans (Moved.of_below hb1)).trans (Moved.of_disk hG2)).trans Moved.set⟩
  · rw [if_pos rfl, if_neg (show ¬ (7 = 0) by decide)]
    rw [hd] at hdn
    go_enter Try.func13, Try.ntmps13
    go_wp2_with fail
    refine hdn.mono ?_
    rintro e w' ⟨rfl, rfl⟩
    go_wp2_with fail
    go_ret
    exact ⟨rfl, v, h, Moved.refl _ _ _ _⟩

set_option maxRecDepth 100000 in
set_option maxHeartbeats 400000 in
theorem force_any (h : Lg w base L b v D c) :
    Calls Try.prog 15 #[.pointer (some ⟨L, 0, none⟩)] w fun e w' => e = .returned (.int .i64 (D.sync.1 : Nat)) ∧ Lg w' base L b v D.sync.2 c ∧ Moved w b L v w' v := by
  have c0 : w.cell? ⟨L, 0, none⟩ = some (.pointer (some ⟨b, 0, none⟩)) := At.cell h.log 0
  go_enter Try.func15, Try.ntmps15
  go_wp2_with fail
  refine (sync_any h.dsk).mono ?_
  rintro e w' ⟨rfl, hD, hG⟩
  go_wp2_with fail
  go_ret
  exact ⟨rfl, h.moved hG hD (sync_ok h.ok), Moved.of_disk hG⟩
set_option maxRecDepth 100000 in
set_option maxHeartbeats 400000 in
theorem room_any (h : Lg w base L b v D c) :
    Calls Try.prog 22 #[.pointer (some ⟨L, 0, none⟩)] w fun e w' => e = .returned (.int .i64 (D.size - D.xs.length : Nat)) ∧ ∃ n, w' = w.drewN n := by
  have c0 : w.cell? ⟨L, 0, none⟩ = some (.pointer (some ⟨b, 0, none⟩)) := At.cell h.log 0
  have hlf := left_quiet h.dsk h.ok
  obtain ⟨N, hN⟩ : ∃ N, D.size - D.xs.length = N := ⟨_, rfl⟩
  rw [hN] at hlf ⊢
  go_enter Try.func22, Try.ntmps22
  go_wp2_with fail
  refine hlf.mono ?_
  rintro e w' ⟨rfl, n, rfl⟩
  go_wp2_with fail
  go_ret
  exact ⟨rfl, n, rfl⟩
theorem len_any (h : Lg w base L b v D c) :
    Calls Try.prog 23 #[.pointer (some ⟨L, 0, none⟩)] w fun e w' => e = .returned (.int .i64 (c : Nat)) ∧ w = w' := by
  have c1 : w.cell? ⟨L, 1, none⟩ = some (.int .i64 c) := At.cell h.log 1
  go_enter Try.func23, Try.ntmps23
  go_wp2_with fail
  go_ret
  exact ⟨rfl, rfl⟩
end

theorem nil_add (s : ByteArray) (w : World) : Calls Try.prog 13 #[.pointer none, .string s] w fun e w' => e = .returned (.int .i64 2) ∧ w = w' := by
  go_enter Try.func13, Try.ntmps13
  go_wp2
  go_ret
  exact ⟨rfl, rfl⟩
theorem nil_force (w : World) : Calls Try.prog 15 #[.pointer none] w fun e w' => e = .returned (.int .i64 2) ∧ w = w' := by
  go_enter Try.func15, Try.ntmps15
  go_wp2
  go_ret
  exact ⟨rfl, rfl⟩
theorem nil_room (w : World) : Calls Try.prog 22 #[.pointer none] w fun e w' => e = .returned (.int .i64 0) ∧ w = w' := by
  go_enter Try.func22, Try.ntmps22
  go_wp2
  go_ret
  exact ⟨rfl, rfl⟩
theorem nil_len (w : World) : Calls Try.prog 23 #[.pointer none] w fun e w' => e = .returned (.int .i64 0) ∧ w = w' := by
  go_enter Try.func23, Try.ntmps23
  go_wp2
  go_ret
  exact ⟨rfl, rfl⟩

section
variable {w w' : World} {base b : Nat} {v : Value} {D : Dk}
/-- The disk, cut to its records. -/
def Dk.cut (D : Dk) : Dk := { D with xs := D.xs.take (took (scanOf D.xs)), safe := took (scanOf D.xs) }
theorem trim_cut (D : Dk) (hd : D.down = false) : D.trim (took (scanOf D.xs) : Nat) = (0, D.cut) := by
  have h := (scanOf_spec D.xs).2.2.2
  unfold Dk.trim Dk.cut
  rw [hd, if_neg Bool.false_ne_true, if_neg (by omega), Int.toNat_natCast]
theorem cut_ok (h : D.Ok) (hd : D.down = false) : D.cut.Ok := by
  have := trim_ok h (took (scanOf D.xs) : Nat)
  rw [trim_cut D hd] at this
  exact this
set_option maxRecDepth 100000 in
set_option maxHeartbeats 400000 in
theorem open_any (h : Dsk w base b v D) (hk : D.Ok) (hd : D.down = false) (lb : base ≤ b) (hb : base ≤ w.heap.size) :
    Calls Try.prog 11 #[.pointer (some ⟨b, 0, none⟩)] w fun e w' => ∃ A c L v', e = .returned (.tuple #[.pointer (some ⟨L, 0, none⟩), .slice A (scanOf D.xs).length c, .int .i64 0]) ∧ OwnsS w' w.heap.size (.slice A (scanOf D.xs).length c) (scanOf D.xs) ∧ Lg w' base L b v' D.cut (scanOf D.xs).length ∧ Wgrew w b v w' v' := by
  have hrd := read_any h
  unfold Dk.read at hrd
  rw [hd, if_neg Bool.false_ne_true] at hrd
  have hsc := fun w => scan_any D.xs (by have := hk.full; have := hk.size; omega) w
  go_enter Try.func11, Try.ntmps11
  go_wp2_with fail
  refine hrd.mono ?_
  rintro e w' ⟨rfl, rfl⟩
  go_wp2_with fail
  refine (hsc _).mono ?_
  rintro e w1 ⟨A, c, rfl, hO1, hb1⟩
  have hD1 := h.fresh hb1
  have htr := trim_any hD1 hk (took (scanOf D.xs) : Nat)
  rw [trim_cut D hd] at htr
  go_wp2_with fail
  refine htr.mono ?_
  rintro e w2 ⟨rfl, v2, hD2, hG2⟩
  go_wp2_with fail
  go_ret3
  refine ⟨A, c, w2.heap.size, v2, rfl, ?_, ?_, ?_⟩
  · exact (hO1.keep fun g hg => hG2.block g (hO1.lt g hg).2 (fun e => by have := (hO1.lt g hg).1; have := h.at_.lt; omega) (fun e => by have := (hO1.lt g hg).1; have := (h.bts.lt g e.symm).2; omega)).alloc _
  · exact ⟨At.fresh _ _ _, hD2.alloc _, cut_ok hk hd, lb, Nat.le_trans hb (Nat.le_trans hb1.size hG2.size)⟩
  · exact ((Wgrew.of_below hb1).trans hG2).trans (Wgrew.alloc _)
set_option maxRecDepth 100000 in
set_option maxHeartbeats 400000 in
theorem open_down (h : Dsk w base b v D) (hk : D.Ok) (hd : D.down = true) :
    Calls Try.prog 11 #[.pointer (some ⟨b, 0, none⟩)] w fun e w' => e = .returned (.tuple #[.pointer none, .slice none 0 0, .int .i64 7]) ∧ ∃ v', Dsk w' base b v' D ∧ Wgrew w b v w' v' := by
  have hrd := read_any h
  unfold Dk.read at hrd
  rw [hd, if_pos rfl] at hrd
  have hsc := fun w => scan_any [] (by simp) w
  rw [scanOf_nil] at hsc
  go_enter Try.func11, Try.ntmps11
  go_wp2_with fail
  refine hrd.mono ?_
  rintro e w' ⟨rfl, rfl⟩
  go_wp2_with fail
  refine (hsc _).mono ?_
  rintro e w1 ⟨A, c, rfl, hO1, hb1⟩
  have hD1 := h.fresh hb1
  have htr := trim_any hD1 hk (took [] : Nat)
  unfold Dk.trim at htr
  rw [hd, if_pos rfl] at htr
  go_wp2_with fail
  refine htr.mono ?_
  rintro e w2 ⟨rfl, v2, hD2, hG2⟩
  go_wp2_with fail
  go_ret3
  exact ⟨rfl, v2, hD2, (Wgrew.of_below hb1).trans hG2⟩
set_option maxRecDepth 100000 in
set_option maxHeartbeats 400000 in
theorem open_nil (w : World) :
    Calls Try.prog 11 #[.pointer none] w fun e w' => e = .returned (.tuple #[.pointer none, .slice none 0 0, .int .i64 2]) ∧ Below w.heap.size w w' := by
  have hsc := fun w => scan_any [] (by simp) w
  rw [scanOf_nil] at hsc
  go_enter Try.func11, Try.ntmps11
  go_wp2_with fail
  refine (nil_read _).mono ?_
  rintro e w' ⟨rfl, rfl⟩
  go_wp2_with fail
  refine (hsc _).mono ?_
  rintro e w1 ⟨A, c, rfl, hO1, hb1⟩
  go_wp2_with fail
  refine (nil_trim _ _).mono ?_
  rintro e w2 ⟨rfl, rfl⟩
  go_wp2_with fail
  go_ret3
  exact ⟨rfl, hb1⟩
end
end Go.Proofs.Ytmdoicemkddpgaa
