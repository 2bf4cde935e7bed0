/- The walk of 'does' (layer 5): one call on both disks. -/
import Derived.Test.YtdgcjhkncokieaaDiskT
import Derived.Deep.RegionHeld3
namespace Go.Proofs.Ytdgcjhkncokieaa
open Go.RowKit

/-- Nothing that was there has turned but the blocks b, m and v's own row; v' lies in that row or in a new one. -/
structure Moved (w : World) (b m : Nat) (v : Value) (w' : World) (v' : Value) : Prop where
  os : w'.os = w.os
  tape : w'.tape = w.tape
  output : w'.output = w.output
  size : w.heap.size ≤ w'.heap.size
  block : ∀ k, k < w.heap.size → k ≠ b → k ≠ m → some k ≠ v.ownBlock → w'.heap[k]? = w.heap[k]?
  lies : ∀ g, v'.ownBlock = some g → v.ownBlock = some g ∨ w.heap.size ≤ g
section
variable {w w' w2 : World} {base b m : Nat} {v v' v2 : Value} {D : Dk}
theorem Moved.refl (w : World) (b m : Nat) (v : Value) : Moved w b m v w v := ⟨rfl, rfl, rfl, Nat.le_refl _, fun _ _ _ _ _ => rfl, fun _ h => .inl h⟩
theorem Moved.trans (h : Moved w b m v w' v') (k : Moved w' b m v' w2 v2) : Moved w b m v w2 v2 := by
  refine ⟨k.os.trans h.os, k.tape.trans h.tape, k.output.trans h.output, Nat.le_trans h.size k.size, fun i hi h1 h2 h3 => ?_, fun g hg => ?_⟩
  · refine (k.block i (Nat.lt_of_lt_of_le hi h.size) h1 h2 ?_).trans (h.block i hi h1 h2 h3)
    intro e
    rcases h.lies i e.symm with e' | e'
    · exact h3 e'.symm
    · omega
  · rcases k.lies g hg with e | e
    · exact h.lies g e
    · exact .inr (Nat.le_trans h.size e)
theorem Moved.of_disk (h : Wgrew w b v w' v') : Moved w b m v w' v' := ⟨h.os, h.tape, h.output, h.size, fun k hk h1 _ h3 => h.block k hk h1 h3, h.lies⟩
theorem Moved.of_ref (h : w.grownBy w' (some m)) : Moved w b m v w' v := ⟨h.os, h.tape, h.output, h.size, fun k hk _ h2 _ => h.block k hk (fun e => h2 (Option.some.inj e)), fun _ h => .inl h⟩
theorem Moved.of_below (h : Below w.heap.size w w') : Moved w b m v w' v := ⟨h.os, h.tape, h.output, h.size, fun k hk _ _ _ => h.block k hk, fun _ h => .inl h⟩
theorem Moved.below (h : Moved w b m v w' v') (h2 : Two w base b m v D) {B : Nat} (hB : B ≤ base) (hs : base ≤ w.heap.size) : Below B w w' :=
  ⟨h.os, h.tape, h.output, h.size, fun k hk => h.block k (by omega) (by have := h2.lb; omega) (by have := h2.lm; omega) (fun e => by have := (h2.dsk.bts.lt k e.symm).1; omega)⟩
/-- The program's disk has moved, the reference's not yet. -/
theorem Two.ref_keep (h : Two w base b m v D) (k : Wgrew w b v w' v') : Ref w' m D :=
  At.keep h.ref (k.block m (At.lt h.ref) (fun e => h.ne e.symm) (fun e => h.own e.symm))
theorem Dsk.ref_keep (h : Dsk w base b v D) (hne : b ≠ m) (hown : v.ownBlock ≠ some m) (k : w.grownBy w' (some m)) : Dsk w' base b v D :=
  ⟨h.at_.grown k (fun e => hne (Option.some.inj e)), h.bts.grown k (.inr hown)⟩
theorem Two.alloc (h : Two w base b m v D) (o : Obj) : Two (w.alloc o) base b m v D := ⟨h.dsk.alloc o, At.alloc h.ref o, h.ok, h.lb, h.lm⟩


theorem Wgrew.cell_at (h : Wgrew w b v w' v') {B i : Nat} (hB : B < w.heap.size) (h1 : B ≠ b) (h3 : v.ownBlock ≠ some B) {u : Value} (hc : w.cell? ⟨B, i, none⟩ = some u) : w'.cell? ⟨B, i, none⟩ = some u :=
  (World.cell?_of_block (h.block B hB h1 (fun e => h3 e.symm))).trans hc
theorem grown_cell (h : w.grownBy w' (some m)) {B i : Nat} (hB : B < w.heap.size) (h1 : B ≠ m) {u : Value} (hc : w.cell? ⟨B, i, none⟩ = some u) : w'.cell? ⟨B, i, none⟩ = some u :=
  (World.cell?_of_block (h.block B hB (fun e => h1 (Option.some.inj e)))).trans hc
/-- What a boxed call leaves alone. -/
theorem Two.box (h : Two w base b m v D) : w.heap.size ≠ b ∧ w.heap.size ≠ m ∧ v.ownBlock ≠ some w.heap.size :=
  ⟨by have := h.dsk.at_.lt; omega, by have := At.lt h.ref; omega, fun e => by have := (h.dsk.bts.lt _ e).2; omega⟩
theorem Moved.alloc_l {o : Obj} (h : Moved (w.alloc o) b m v w' v') : Moved w b m v w' v' := by
  have hs : (w.alloc o).heap.size = w.heap.size + 1 := by simp
  refine ⟨h.os, h.tape, h.output, by have := h.size; omega, fun k hk h1 h2 h3 => (h.block k (by omega) h1 h2 h3).trans (Below.heap_alloc _ _ _ hk), fun g hg => ?_⟩
  rcases h.lies g hg with e | e
  · exact .inl e
  · exact .inr (by omega)
theorem Moved.still (h : Still w w') : Moved w b m v w' v := Moved.of_below (h.below _)

set_option maxRecDepth 100000 in
set_option maxHeartbeats 800000 in
theorem does_append (h2 : Two w base b m v D) (hs : base ≤ w.heap.size) (s : List UInt8) (n : Int) (t : UInt8) (hl : s.length ≤ 1000000) :
    Calls Try.prog 12 #[.pointer (some ⟨b, 0, none⟩), .pointer (some ⟨m, 0, none⟩), .agg #[.int .i64 0, .string ⟨s.toArray⟩, .int .i64 n, .int .u8 (t.toNat : Int)]] w
      fun e w' => e = .returned (.bool true) ∧ ∃ v', Two w' base b m v' (D.append s).2 ∧ Moved w b m v w' v' := by
  obtain ⟨hb1, hb2, hb3⟩ := h2.box
  have hX := At.fresh w 31 #[.int .i64 0, .string ⟨s.toArray⟩, .int .i64 n, .int .u8 (t.toNat : Int)]
  have hT := h2.alloc (.cells #[.int .i64 0, .string ⟨s.toArray⟩, .int .i64 n, .int .u8 (t.toNat : Int)] 31)
  have hM := fun (w' : World) (v' : Value) (h : Moved (w.alloc (.cells #[.int .i64 0, .string ⟨s.toArray⟩, .int .i64 n, .int .u8 (t.toNat : Int)] 31)) b m v w' v') => h.alloc_l
  have hsz : (w.alloc (.cells #[.int .i64 0, .string ⟨s.toArray⟩, .int .i64 n, .int .u8 (t.toNat : Int)] 31)).heap.size = w.heap.size + 1 := by simp
  have hne := h2.ne
  go_enter Try.func12, Try.ntmps12
  go_wp2_with fail
  generalize w.alloc (.cells #[.int .i64 0, .string ⟨s.toArray⟩, .int .i64 n, .int .u8 (t.toNat : Int)] 31) = W at *
  have S0 : W.cell? ⟨w.heap.size, 1, none⟩ = some (.string ⟨s.toArray⟩) := At.cell hX 1
  have hTd := hT.still (Still.drew W)
  have Sd : W.drew.cell? ⟨w.heap.size, 1, none⟩ = some (.string ⟨s.toArray⟩) := S0
  have hsd : W.drew.heap.size = w.heap.size + 1 := hsz
  have hA := append_any hTd.dsk hTd.ok s (by omega)
  have hok := append_ok h2.ok s
  go_region_held3 (fun w' => w'.cell? ⟨w.heap.size, 1, none⟩ = some (.string ⟨s.toArray⟩)) (first | exact S0 | exact Sd | exact S1 | exact S2)
    (first
      | (go_at_call 15; refine hA.mono ?_; rintro e w3 ⟨rfl, v3, hD3, hG3⟩; have hR3 := hTd.ref_keep hG3; have S1 := hG3.cell_at (by omega) hb1 hb3 Sd)
      | (go_at_call 25; refine (rappend_any hR3 h2.ok s hl).mono ?_; rintro e w4 ⟨rfl, hR4, hG4⟩; have S2 := grown_cell hG4 (by have := hG3.size; omega) hb2 S1))
  all_goals
    go_wp2_with fail
    go_ret
    exact ⟨rfl, v3, ⟨hD3.ref_keep hne (hD3.bts.apart hR3 (by decide)) hG4, hR4, hok, h2.lb, h2.lm⟩, hM _ _ ((Moved.still (Still.drew _)).trans ((Moved.of_disk hG3).trans (Moved.of_ref hG4)))⟩

set_option maxRecDepth 100000 in
set_option maxHeartbeats 800000 in
theorem does_trim (h2 : Two w base b m v D) (s : List UInt8) (n : Int) (t : UInt8) :
    Calls Try.prog 12 #[.pointer (some ⟨b, 0, none⟩), .pointer (some ⟨m, 0, none⟩), .agg #[.int .i64 2, .string ⟨s.toArray⟩, .int .i64 n, .int .u8 (t.toNat : Int)]] w
      fun e w' => e = .returned (.bool true) ∧ ∃ v', Two w' base b m v' (D.trim n).2 ∧ Moved w b m v w' v' := by
  obtain ⟨hb1, hb2, hb3⟩ := h2.box
  have hX := At.fresh w 31 #[.int .i64 2, .string ⟨s.toArray⟩, .int .i64 n, .int .u8 (t.toNat : Int)]
  have hT := h2.alloc (.cells #[.int .i64 2, .string ⟨s.toArray⟩, .int .i64 n, .int .u8 (t.toNat : Int)] 31)
  have hM := fun (w' : World) (v' : Value) (h : Moved (w.alloc (.cells #[.int .i64 2, .string ⟨s.toArray⟩, .int .i64 n, .int .u8 (t.toNat : Int)] 31)) b m v w' v') => h.alloc_l
  have hsz : (w.alloc (.cells #[.int .i64 2, .string ⟨s.toArray⟩, .int .i64 n, .int .u8 (t.toNat : Int)] 31)).heap.size = w.heap.size + 1 := by simp
  have hne := h2.ne
  go_enter Try.func12, Try.ntmps12
  go_wp2_with fail
  generalize w.alloc (.cells #[.int .i64 2, .string ⟨s.toArray⟩, .int .i64 n, .int .u8 (t.toNat : Int)] 31) = W at *
  have S0 : W.cell? ⟨w.heap.size, 2, none⟩ = some (.int .i64 n) := At.cell hX 2
  have hTd := hT.still (Still.drew W)
  have Sd : W.drew.cell? ⟨w.heap.size, 2, none⟩ = some (.int .i64 n) := S0
  have hsd : W.drew.heap.size = w.heap.size + 1 := hsz
  have hA := trim_any hTd.dsk hTd.ok n
  have hok := trim_ok h2.ok n
  go_region_held3 (fun w' => w'.cell? ⟨w.heap.size, 2, none⟩ = some (.int .i64 n)) (first | exact S0 | exact Sd | exact S1 | exact S2)
    (first
      | (go_at_call 17; refine hA.mono ?_; rintro e w3 ⟨rfl, v3, hD3, hG3⟩; have hR3 := hTd.ref_keep hG3; have S1 := hG3.cell_at (by omega) hb1 hb3 Sd)
      | (go_at_call 27; refine (rtrim_any hR3 h2.ok n).mono ?_; rintro e w4 ⟨rfl, hR4, hG4⟩; have S2 := grown_cell hG4 (by have := hG3.size; omega) hb2 S1))
  all_goals
    go_wp2_with fail
    go_ret
    exact ⟨rfl, v3, ⟨hD3.ref_keep hne (hD3.bts.apart hR3 (by decide)) hG4, hR4, hok, h2.lb, h2.lm⟩, hM _ _ ((Moved.still (Still.drew _)).trans ((Moved.of_disk hG3).trans (Moved.of_ref hG4)))⟩

set_option maxRecDepth 100000 in
set_option maxHeartbeats 800000 in
theorem does_sync (h2 : Two w base b m v D) (s : List UInt8) (n : Int) (t : UInt8) :
    Calls Try.prog 12 #[.pointer (some ⟨b, 0, none⟩), .pointer (some ⟨m, 0, none⟩), .agg #[.int .i64 1, .string ⟨s.toArray⟩, .int .i64 n, .int .u8 (t.toNat : Int)]] w
      fun e w' => e = .returned (.bool true) ∧ ∃ v', Two w' base b m v' D.sync.2 ∧ Moved w b m v w' v' := by
  obtain ⟨hb1, hb2, hb3⟩ := h2.box
  have hX := At.fresh w 31 #[.int .i64 1, .string ⟨s.toArray⟩, .int .i64 n, .int .u8 (t.toNat : Int)]
  have hT := h2.alloc (.cells #[.int .i64 1, .string ⟨s.toArray⟩, .int .i64 n, .int .u8 (t.toNat : Int)] 31)
  have hM := fun (w' : World) (v' : Value) (h : Moved (w.alloc (.cells #[.int .i64 1, .string ⟨s.toArray⟩, .int .i64 n, .int .u8 (t.toNat : Int)] 31)) b m v w' v') => h.alloc_l
  have hsz : (w.alloc (.cells #[.int .i64 1, .string ⟨s.toArray⟩, .int .i64 n, .int .u8 (t.toNat : Int)] 31)).heap.size = w.heap.size + 1 := by simp
  have hne := h2.ne
  go_enter Try.func12, Try.ntmps12
  go_wp2_with fail
  generalize w.alloc (.cells #[.int .i64 1, .string ⟨s.toArray⟩, .int .i64 n, .int .u8 (t.toNat : Int)] 31) = W at *
  have hok := sync_ok h2.ok
  refine (sync_any hT.dsk).mono ?_
  rintro e w3 ⟨rfl, hD3, hG3⟩
  have hR3 := hT.ref_keep hG3
  go_wp2_with fail
  refine (rsync_any hR3 h2.ok).mono ?_
  rintro e w4 ⟨rfl, hR4, hG4⟩
  go_wp2_with fail
  go_ret
  exact ⟨rfl, v, ⟨hD3.ref_keep hne (hD3.bts.apart hR3 (by decide)) hG4, hR4, hok, h2.lb, h2.lm⟩, hM _ _ ((Moved.of_disk hG3).trans (Moved.of_ref hG4))⟩

set_option maxRecDepth 100000 in
set_option maxHeartbeats 800000 in
theorem does_off (h2 : Two w base b m v D) (s : List UInt8) (n : Int) (t : UInt8) :
    Calls Try.prog 12 #[.pointer (some ⟨b, 0, none⟩), .pointer (some ⟨m, 0, none⟩), .agg #[.int .i64 3, .string ⟨s.toArray⟩, .int .i64 n, .int .u8 (t.toNat : Int)]] w
      fun e w' => e = .returned (.bool true) ∧ ∃ v', Two w' base b m v' (D.off n t) ∧ Moved w b m v w' v' := by
  obtain ⟨hb1, hb2, hb3⟩ := h2.box
  have hX := At.fresh w 31 #[.int .i64 3, .string ⟨s.toArray⟩, .int .i64 n, .int .u8 (t.toNat : Int)]
  have hT := h2.alloc (.cells #[.int .i64 3, .string ⟨s.toArray⟩, .int .i64 n, .int .u8 (t.toNat : Int)] 31)
  have hM := fun (w' : World) (v' : Value) (h : Moved (w.alloc (.cells #[.int .i64 3, .string ⟨s.toArray⟩, .int .i64 n, .int .u8 (t.toNat : Int)] 31)) b m v w' v') => h.alloc_l
  have hsz : (w.alloc (.cells #[.int .i64 3, .string ⟨s.toArray⟩, .int .i64 n, .int .u8 (t.toNat : Int)] 31)).heap.size = w.heap.size + 1 := by simp
  have hne := h2.ne
  go_enter Try.func12, Try.ntmps12
  go_wp2_with fail
  generalize w.alloc (.cells #[.int .i64 3, .string ⟨s.toArray⟩, .int .i64 n, .int .u8 (t.toNat : Int)] 31) = W at *
  have hok := off_ok h2.ok n t
  have S2 : W.cell? ⟨w.heap.size, 2, none⟩ = some (.int .i64 n) := At.cell hX 2
  have S3 : W.cell? ⟨w.heap.size, 3, none⟩ = some (.int .u8 (t.toNat : Int)) := At.cell hX 3
  refine (off_any hT.dsk hT.ok n t).mono ?_
  rintro e w3 ⟨rfl, v3, hD3, hG3⟩
  have hR3 := hT.ref_keep hG3
  have U2 := hG3.cell_at (by omega) hb1 hb3 S2
  have U3 := hG3.cell_at (by omega) hb1 hb3 S3
  go_wp2_with fail
  refine (roff_any hR3 h2.ok n t).mono ?_
  rintro e w4 ⟨rfl, hR4, hG4⟩
  go_wp2_with fail
  go_ret
  exact ⟨rfl, v3, ⟨hD3.ref_keep hne (hD3.bts.apart hR3 (by decide)) hG4, hR4, hok, h2.lb, h2.lm⟩, hM _ _ ((Moved.of_disk hG3).trans (Moved.of_ref hG4))⟩

set_option maxRecDepth 100000 in
set_option maxHeartbeats 800000 in
theorem does_on (h2 : Two w base b m v D) (hbo : D.boots < 1000000) (s : List UInt8) (n : Int) (t : UInt8) :
    Calls Try.prog 12 #[.pointer (some ⟨b, 0, none⟩), .pointer (some ⟨m, 0, none⟩), .agg #[.int .i64 4, .string ⟨s.toArray⟩, .int .i64 n, .int .u8 (t.toNat : Int)]] w
      fun e w' => e = .returned (.bool true) ∧ ∃ v', Two w' base b m v' D.on ∧ Moved w b m v w' v' := by
  obtain ⟨hb1, hb2, hb3⟩ := h2.box
  have hX := At.fresh w 31 #[.int .i64 4, .string ⟨s.toArray⟩, .int .i64 n, .int .u8 (t.toNat : Int)]
  have hT := h2.alloc (.cells #[.int .i64 4, .string ⟨s.toArray⟩, .int .i64 n, .int .u8 (t.toNat : Int)] 31)
  have hM := fun (w' : World) (v' : Value) (h : Moved (w.alloc (.cells #[.int .i64 4, .string ⟨s.toArray⟩, .int .i64 n, .int .u8 (t.toNat : Int)] 31)) b m v w' v') => h.alloc_l
  have hsz : (w.alloc (.cells #[.int .i64 4, .string ⟨s.toArray⟩, .int .i64 n, .int .u8 (t.toNat : Int)] 31)).heap.size = w.heap.size + 1 := by simp
  have hne := h2.ne
  go_enter Try.func12, Try.ntmps12
  go_wp2_with fail
  generalize w.alloc (.cells #[.int .i64 4, .string ⟨s.toArray⟩, .int .i64 n, .int .u8 (t.toNat : Int)] 31) = W at *
  have hok := on_ok h2.ok
  refine (on_any hT.dsk hbo).mono ?_
  rintro e w3 ⟨rfl, hD3, hG3⟩
  have hR3 := hT.ref_keep hG3
  go_wp2_with fail
  refine (ron_any hR3 h2.ok hbo).mono ?_
  rintro e w4 ⟨rfl, hR4, hG4⟩
  go_wp2_with fail
  go_ret
  exact ⟨rfl, v, ⟨hD3.ref_keep hne (hD3.bts.apart hR3 (by decide)) hG4, hR4, hok, h2.lb, h2.lm⟩, hM _ _ ((Moved.of_disk hG3).trans (Moved.of_ref hG4))⟩

set_option maxRecDepth 100000 in
set_option maxHeartbeats 800000 in
theorem does_other (h2 : Two w base b m v D) (k : Int) (s : List UInt8) (n : Int) (t : UInt8) (h0 : k ≠ 0) (h1 : k ≠ 1) (h3 : k ≠ 2) (h4 : k ≠ 3) (h5 : k ≠ 4) :
    Calls Try.prog 12 #[.pointer (some ⟨b, 0, none⟩), .pointer (some ⟨m, 0, none⟩), .agg #[.int .i64 k, .string ⟨s.toArray⟩, .int .i64 n, .int .u8 (t.toNat : Int)]] w
      fun e w' => e = .returned (.bool true) ∧ ∃ v', Two w' base b m v' D ∧ Moved w b m v w' v' := by
  have b0 : (k == 0) = false := by simpa using h0
  have b1 : (k == 1) = false := by simpa using h1
  have b2 : (k == 2) = false := by simpa using h3
  have b3 : (k == 3) = false := by simpa using h4
  have b4 : (k == 4) = false := by simpa using h5
  go_enter Try.func12, Try.ntmps12
  go_wp2_with fail
  go_ret
  exact ⟨rfl, v, h2.alloc _, Moved.of_below ((Below.refl _ _).alloc (Nat.le_refl _) _)⟩

theorem does_any (h2 : Two w base b m v D) (hs : base ≤ w.heap.size) (hbo : D.boots < 1000000) (c : Cl) (hl : c.s.length ≤ 1000000) :
    Calls Try.prog 12 #[.pointer (some ⟨b, 0, none⟩), .pointer (some ⟨m, 0, none⟩), .agg #[.int .i64 c.kind, .string ⟨c.s.toArray⟩, .int .i64 c.n, .int .u8 (c.turn.toNat : Int)]] w
      fun e w' => e = .returned (.bool true) ∧ ∃ v', Two w' base b m v' (D.call c) ∧ Moved w b m v w' v' := by
  obtain ⟨k, s, n, t⟩ := c
  unfold Dk.call
  simp only at hl ⊢
  by_cases h0 : k = 0
  · subst h0
    rw [if_pos rfl]
    exact does_append h2 hs s n t hl
  rw [if_neg h0]
  by_cases h1 : k = 1
  · subst h1
    rw [if_pos rfl]
    exact does_sync h2 s n t
  rw [if_neg h1]
  by_cases h3 : k = 2
  · subst h3
    rw [if_pos rfl]
    exact does_trim h2 s n t
  rw [if_neg h3]
  by_cases h4 : k = 3
  · subst h4
    rw [if_pos rfl]
    exact does_off h2 s n t
  rw [if_neg h4]
  by_cases h5 : k = 4
  · subst h5
    rw [if_pos rfl]
    exact does_on h2 hbo s n t
  rw [if_neg h5]
  exact does_other h2 k s n t h0 h1 h3 h4 h5
end
end Go.Proofs.Ytdgcjhkncokieaa
