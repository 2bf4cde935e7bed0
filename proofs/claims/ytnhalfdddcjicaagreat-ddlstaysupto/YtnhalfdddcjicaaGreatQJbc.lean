/- A writer, as the schema's walks hold it: steps of Int, Str, Bool; value.Put. -/
/- The writer's lists of columns and of grants. -/
import Derived.Test.YtnhalfdddcjicaaGreatQJap
import Derived.Test.YtnhalfdddcjicaaGreatQJao
import Derived.Test.YtnhalfdddcjicaaGreatQJbb
import Derived.Test.YtnhalfdddcjicaaGreatQSsB
namespace Go.Proofs.YtnhalfdddcjicaaGreat
open Go.RowKit

/-- A writer at block b holds xs; it and its bytes lie behind B. -/
def Wr (B b : Nat) (w : World) (xs : List UInt8) : Prop := B ≤ b ∧ B ≤ w.heap.size ∧ ∃ v, At w b 82 #[v] ∧ Owns w B 5 v xs
theorem Wr.alloc {B b : Nat} {w : World} {xs : List UInt8} (h : Wr B b w xs) (o : Obj) : Wr B b (w.alloc o) xs := by
  obtain ⟨h1, h2, v, h3, h4⟩ := h
  exact ⟨h1, by simp; omega, v, h3.alloc o, World.ownsRow.alloc h4 o⟩
/-- Whatever is no row of bytes, and not the writer's own block, is kept. -/
def Kps (b : Nat) (w w' : World) : Prop := ∀ g t cs, At w g t cs → 5 ≠ t → g ≠ b → At w' g t cs
theorem Kps.refl (b : Nat) (w : World) : Kps b w w := fun _ _ _ h _ _ => h
theorem Kps.trans {b : Nat} {w w1 w2 : World} (h : Kps b w w1) (k : Kps b w1 w2) : Kps b w w2 := fun g t cs hg ht hne => k g t cs (h g t cs hg ht hne) ht hne
theorem Kps.alloc_l {b : Nat} {w w1 : World} {o : Obj} (h : Kps b (w.alloc o) w1) : Kps b w w1 := fun g t cs hg ht hne => h g t cs (hg.alloc o) ht hne
theorem Kps.alloc_r {b : Nat} {w w1 : World} (h : Kps b w w1) (o : Obj) : Kps b w (w1.alloc o) := fun g t cs hg ht hne => (h g t cs hg ht hne).alloc o
/-- What a step of a writer leaves. -/
structure Put (B b : Nat) (w : World) (ys : List UInt8) (e : Ending) (w' : World) : Prop where
  ret : e = .returned (.tuple #[])
  wr : Wr B b w' ys
  bel : Below B w w'
  keep : Kps b w w'
theorem Wr.lt {B b : Nat} {w : World} {xs : List UInt8} (h : Wr B b w xs) : b < w.heap.size := by
  obtain ⟨_, _, v, h3, _⟩ := h
  exact h3.lt
theorem Put.trans {B b : Nat} {w w1 w2 : World} {ys zs : List UInt8} {e e' : Ending} (h : Put B b w ys e w1) (k : Put B b w1 zs e' w2) : Put B b w zs e' w2 :=
  ⟨k.ret, k.wr, h.bel.trans k.bel, h.keep.trans k.keep⟩
/-- Behind blocks of one's own. -/
theorem Put.of_alloc {B b : Nat} {w w1 : World} {o : Obj} {ys : List UInt8} {e : Ending} (hB : B ≤ w.heap.size) (h : Put B b (w.alloc o) ys e w1) : Put B b w ys e w1 :=
  ⟨h.ret, h.wr, ((Below.refl B w).alloc hB o).trans h.bel, h.keep.alloc_l⟩
theorem Strs.one (w : World) (ty : TypeId) (t : List UInt8) : Strs (w.alloc (.cells #[.string ⟨t.toArray⟩] ty)) (some ⟨w.heap.size, 0, none⟩) 1 [t] := by
  have hA := At.fresh w ty #[.string ⟨t.toArray⟩]
  refine ⟨rfl, fun _ => ⟨_, 0, rfl, hA.lt, fun j hj => ?_⟩⟩
  obtain rfl : j = 0 := by omega
  exact At.cell hA 0
theorem Strs.two (w : World) (ty : TypeId) (t u : List UInt8) : Strs (w.alloc (.cells #[.string ⟨t.toArray⟩, .string ⟨u.toArray⟩] ty)) (some ⟨w.heap.size, 0, none⟩) 2 [t, u] := by
  have hA := At.fresh w ty #[.string ⟨t.toArray⟩, .string ⟨u.toArray⟩]
  refine ⟨rfl, fun _ => ⟨_, 0, rfl, hA.lt, fun j hj => ?_⟩⟩
  rcases (show j = 0 ∨ j = 1 by omega) with rfl | rfl
  · exact At.cell hA 0
  · exact At.cell hA 1
theorem Bools.two (w : World) (ty : TypeId) (t u : Bool) : Bools (w.alloc (.cells #[.bool t, .bool u] ty)) (some ⟨w.heap.size, 0, none⟩) 2 [t, u] := by
  have hA := At.fresh w ty #[.bool t, .bool u]
  refine ⟨rfl, fun _ => ⟨_, 0, rfl, hA.lt, fun j hj => ?_⟩⟩
  rcases (show j = 0 ∨ j = 1 by omega) with rfl | rfl
  · exact At.cell hA 0
  · exact At.cell hA 1
theorem put_of {B b : Nat} {w : World} {o : Obj} {v : Value} {xs ys : List UInt8} {e : Ending} {w' : World} (h1 : B ≤ b) (h2 : B ≤ w.heap.size) (h4 : Owns w B 5 v xs)
    (h : e = .returned (.tuple #[]) ∧ ∃ v', At w' b 82 #[v'] ∧ Owns w' B 5 v' ys ∧ Wgrew (w.alloc o) b v w' v') : Put B b w ys e w' := by
  obtain ⟨rfl, v', k1, k2, k3⟩ := h
  have k4 := k3.alloc_l.below h2 h1 (fun g hg => (h4.lt g hg).1)
  exact ⟨rfl, ⟨h1, Nat.le_trans h2 k4.size, v', k1, k2⟩, k4, fun g t cs hg ht hne => k3.alloc_l.at_ hg hne (owns_apart h4 hg ht)⟩
theorem apart_new {w : World} {B b c o : Nat} {v : Value} {xs : List UInt8} (h3 : At w b 82 #[v]) (h4 : Owns w B 5 v xs) (h : some (⟨w.heap.size, 0, none⟩ : Addr) = some ⟨c, o, none⟩) : c ≠ b ∧ v.ownBlock ≠ some c := by
  have hlt := h3.lt
  have hv := h4.lt
  have hc : c = w.heap.size := by simp at h; exact h.1.symm
  refine ⟨by omega, fun e => ?_⟩
  have := hv c e
  omega
theorem putI1 (B b : Nat) (w : World) (xs : List UInt8) (x : Int) (h : Wr B b w xs) (hI : I64 x) (hl : xs.length ≤ 90000000) :
    Calls Tryz.prog 46 #[.pointer (some ⟨b, 0, none⟩), .slice (some ⟨w.heap.size, 0, none⟩) 1 1] (w.alloc (.cells #[.int .i64 x] 3)) fun e w' => Put B b w (xs ++ enc x) e w' := by
  obtain ⟨h1, h2, v, h3, h4⟩ := h
  exact (wint_any b B v xs _ 1 1 [x] _ (h3.alloc _) (World.ownsRow.alloc h4 _) (by simp; omega) (Nums.new w 3 [x]) (fun _ c o hc => apart_new h3 h4 hc) (by simpa using hI) (by omega)).mono fun e w' k => put_of h1 h2 h4 (by simpa [encs] using k)
theorem putI2 (B b : Nat) (w : World) (xs : List UInt8) (x y : Int) (h : Wr B b w xs) (hI : I64 x) (hJ : I64 y) (hl : xs.length ≤ 90000000) :
    Calls Tryz.prog 46 #[.pointer (some ⟨b, 0, none⟩), .slice (some ⟨w.heap.size, 0, none⟩) 2 2] (w.alloc (.cells #[.int .i64 x, .int .i64 y] 3)) fun e w' => Put B b w (xs ++ (enc x ++ enc y)) e w' := by
  obtain ⟨h1, h2, v, h3, h4⟩ := h
  exact (wint_any b B v xs _ 2 2 [x, y] _ (h3.alloc _) (World.ownsRow.alloc h4 _) (by simp; omega) (Nums.new w 3 [x, y]) (fun _ c o hc => apart_new h3 h4 hc) (by intro m hm; simp at hm; rcases hm with rfl | rfl; exact hI; exact hJ) (by omega)).mono fun e w' k => put_of h1 h2 h4 (by simpa [encs] using k)
theorem putS1 (B b : Nat) (w : World) (xs : List UInt8) (x : List UInt8) (h : Wr B b w xs) (hl : xs.length + (encS x).length ≤ 90000000) :
    Calls Tryz.prog 80 #[.pointer (some ⟨b, 0, none⟩), .slice (some ⟨w.heap.size, 0, none⟩) 1 1] (w.alloc (.cells #[.string ⟨x.toArray⟩] 9)) fun e w' => Put B b w (xs ++ encS x) e w' := by
  obtain ⟨h1, h2, v, h3, h4⟩ := h
  exact (wstr_any b B v xs _ 1 1 [x] _ (h3.alloc _) (World.ownsRow.alloc h4 _) (by simp; omega) (Strs.one w 9 x) (fun _ c o hc => apart_new h3 h4 hc) (by simp [encSs]; omega) (by omega)).mono fun e w' k => put_of h1 h2 h4 (by simpa [encSs] using k)
theorem putS2 (B b : Nat) (w : World) (xs : List UInt8) (x y : List UInt8) (h : Wr B b w xs) (hl : xs.length + ((encS x).length + (encS y).length) ≤ 90000000) :
    Calls Tryz.prog 80 #[.pointer (some ⟨b, 0, none⟩), .slice (some ⟨w.heap.size, 0, none⟩) 2 2] (w.alloc (.cells #[.string ⟨x.toArray⟩, .string ⟨y.toArray⟩] 9)) fun e w' => Put B b w (xs ++ (encS x ++ encS y)) e w' := by
  obtain ⟨h1, h2, v, h3, h4⟩ := h
  exact (wstr_any b B v xs _ 2 2 [x, y] _ (h3.alloc _) (World.ownsRow.alloc h4 _) (by simp; omega) (Strs.two w 9 x y) (fun _ c o hc => apart_new h3 h4 hc) (by simp [encSs]; omega) (by omega)).mono fun e w' k => put_of h1 h2 h4 (by simpa [encSs] using k)
theorem putB2 (B b : Nat) (w : World) (xs : List UInt8) (x y : Bool) (h : Wr B b w xs) (hl : xs.length ≤ 90000000) :
    Calls Tryz.prog 107 #[.pointer (some ⟨b, 0, none⟩), .slice (some ⟨w.heap.size, 0, none⟩) 2 2] (w.alloc (.cells #[.bool x, .bool y] 4)) fun e w' => Put B b w (xs ++ (encB x ++ encB y)) e w' := by
  obtain ⟨h1, h2, v, h3, h4⟩ := h
  exact (wbool_any b B v xs _ 2 2 [x, y] _ (h3.alloc _) (World.ownsRow.alloc h4 _) (by simp; omega) (Bools.two w 4 x y) (fun _ c o hc => apart_new h3 h4 hc) (by omega)).mono fun e w' k => put_of h1 h2 h4 (by simpa [encBs] using k)

set_option maxRecDepth 100000 in
set_option maxHeartbeats 1600000 in
theorem putV_any (B b : Nat) (w : World) (xs : List UInt8) (x : Vl) (h : Wr B b w xs) (hx : x.Ok) (hl : xs.length + (bytesV x).length ≤ 90000000) :
    Calls Tryz.prog 108 #[.pointer (some ⟨b, 0, none⟩), x.val] w fun e w' => Put B b w (xs ++ bytesV x) e w' := by
  obtain ⟨k, n, t⟩ := x
  have i1 := hx.kind
  have i2 := hx.num
  have hB : Hid (bytesV ⟨k, n, t⟩ = enc k ++ enc n ++ encS t) := rfl
  rw [hB.out] at hl ⊢
  simp only [List.length_append] at i1 i2 hl
  clear hx hB
  show Calls _ _ #[.pointer (some ⟨b, 0, none⟩), .agg #[.int .i64 k, .int .i64 n, .string ⟨t.toArray⟩]] w _
  have aV := At.fresh w 27 #[.int .i64 k, .int .i64 n, .string ⟨t.toArray⟩]
  have hw := h.alloc (.cells #[.int .i64 k, .int .i64 n, .string ⟨t.toArray⟩] 27)
  have hb0 : Below B w (w.alloc (.cells #[.int .i64 k, .int .i64 n, .string ⟨t.toArray⟩] 27)) := (Below.refl _ _).alloc h.2.1 _
  have hC := putI2 B b _ xs k n hw i1 i2 (by omega)
  simp only [World.size_alloc] at hC
  go_enter Tryz.func108, Tryz.ntmps108
  go_wp2_with fail
  have hwl := h.lt
  refine hC.mono ?_
  rintro e w1 ⟨rfl, hw1, hb1, hk1⟩
  have aV1 := hk1 _ _ _ aV (by decide) (by omega)
  obtain ⟨c0, c1, c2⟩ := aV1.tri1
  have hC2 := putS1 B b _ _ t hw1 (by simp only [List.length_append]; omega)
  go_wp2_with fail
  refine hC2.mono ?_
  rintro e w2 ⟨rfl, hw2, hb2, hk2⟩
  go_wp2_with fail
  go_end0
  refine ⟨rfl, ?_, hb0.trans (hb1.trans hb2), (Kps.trans hk1 hk2).alloc_l⟩
  rw [List.append_assoc] at hw2
  exact hw2

set_option maxRecDepth 100000 in
set_option maxHeartbeats 1600000 in
theorem putC_any (B b : Nat) (w : World) (xs : List UInt8) (c : Co) (h : Wr B b w xs) (hk : I64 c.kind) (hd : I64 c.del) (hl : xs.length + (encC c).length ≤ 90000000) :
    Calls Tryz.prog 82 #[.pointer (some ⟨b, 0, none⟩), c.val] w fun e w' => Put B b w (xs ++ encC c) e w' := by
  obtain ⟨nm, kd, nn, un, ref, dl⟩ := c
  simp only at hk hd
  have hE : encC ⟨nm, kd, nn, un, ref, dl⟩ = (encS nm ++ encS ref) ++ ((enc kd ++ enc dl) ++ (encB nn ++ encB un)) := by unfold encC; simp only [List.append_assoc]
  rw [hE] at hl ⊢
  clear hE
  simp only [List.length_append] at hl
  simp only [Co.val]
  have aV := At.fresh w 54 #[.string ⟨nm.toArray⟩, .int .i64 kd, .bool nn, .bool un, .string ⟨ref.toArray⟩, .int .i64 dl]
  have hw := h.alloc (.cells #[.string ⟨nm.toArray⟩, .int .i64 kd, .bool nn, .bool un, .string ⟨ref.toArray⟩, .int .i64 dl] 54)
  have hb0 : Below B w (w.alloc (.cells #[.string ⟨nm.toArray⟩, .int .i64 kd, .bool nn, .bool un, .string ⟨ref.toArray⟩, .int .i64 dl] 54)) := (Below.refl _ _).alloc h.2.1 _
  have hC := putS2 B b _ xs nm ref hw (by omega)
  simp only [World.size_alloc] at hC
  have hwl := h.lt
  go_enter Tryz.func82, Tryz.ntmps82
  go_wp2_with fail
  refine hC.mono ?_
  rintro e w1 ⟨rfl, hw1, hb1, hk1⟩
  have aV1 := hk1 _ _ _ aV (by decide) (by omega)
  obtain ⟨c0, c1, c2, c3, c4, c5⟩ := aV1.six
  have hC2 := putI2 B b _ _ kd dl hw1 hk hd (by simp only [List.length_append]; omega)
  go_wp2_with fail
  refine hC2.mono ?_
  rintro e w2 ⟨rfl, hw2, hb2, hk2⟩
  have aV2 := hk2 _ _ _ aV1 (by decide) (by omega)
  clear c0 c1 c2 c3 c4 c5
  obtain ⟨c0, c1, c2, c3, c4, c5⟩ := aV2.six
  have hC3 := putB2 B b _ _ nn un hw2 (by simp only [List.length_append]; omega)
  go_wp2_with fail
  refine hC3.mono ?_
  rintro e w3 ⟨rfl, hw3, hb3, hk3⟩
  go_wp2_with fail
  go_end0
  refine ⟨rfl, ?_, hb0.trans (hb1.trans (hb2.trans hb3)), (Kps.trans hk1 (Kps.trans hk2 hk3)).alloc_l⟩
  simp only [List.append_assoc] at hw3 ⊢
  exact hw3
set_option maxRecDepth 100000 in
set_option maxHeartbeats 1600000 in
theorem putG_any (B b : Nat) (w : World) (xs : List UInt8) (c : Gr) (h : Wr B b w xs) (hk : I64 c.role) (hd : I64 c.bits) (hl : xs.length + (encG c).length ≤ 90000000) :
    Calls Tryz.prog 50 #[.pointer (some ⟨b, 0, none⟩), c.val] w fun e w' => Put B b w (xs ++ encG c) e w' := by
  obtain ⟨ro, tb, bi⟩ := c
  simp only at hk hd
  have hE : encG ⟨ro, tb, bi⟩ = (enc ro ++ enc bi) ++ encS tb := by unfold encG; simp only [List.append_assoc]
  rw [hE] at hl ⊢
  clear hE
  simp only [List.length_append] at hl
  simp only [Gr.val]
  have aV := At.fresh w 50 #[.int .i64 ro, .string ⟨tb.toArray⟩, .int .i64 bi]
  have hw := h.alloc (.cells #[.int .i64 ro, .string ⟨tb.toArray⟩, .int .i64 bi] 50)
  have hb0 : Below B w (w.alloc (.cells #[.int .i64 ro, .string ⟨tb.toArray⟩, .int .i64 bi] 50)) := (Below.refl _ _).alloc h.2.1 _
  have hC := putI2 B b _ xs ro bi hw hk hd (by omega)
  simp only [World.size_alloc] at hC
  have hwl := h.lt
  go_enter Tryz.func50, Tryz.ntmps50
  go_wp2_with fail
  refine hC.mono ?_
  rintro e w1 ⟨rfl, hw1, hb1, hk1⟩
  have aV1 := hk1 _ _ _ aV (by decide) (by omega)
  obtain ⟨c0, c1, c2⟩ := aV1.tri1
  have hC2 := putS1 B b _ _ tb hw1 (by simp only [List.length_append]; omega)
  go_wp2_with fail
  refine hC2.mono ?_
  rintro e w2 ⟨rfl, hw2, hb2, hk2⟩
  go_wp2_with fail
  go_end0
  refine ⟨rfl, ?_, hb0.trans (hb1.trans hb2), (Kps.trans hk1 hk2).alloc_l⟩
  rw [List.append_assoc] at hw2 ⊢
  first | exact hw2 | (rw [List.append_assoc]; exact hw2) | (simp only [List.append_assoc] at hw2 ⊢; exact hw2)
end Go.Proofs.YtnhalfdddcjicaaGreat

namespace Go.Proofs.YtnhalfdddcjicaaGreat
open Go.RowKit

set_option maxRecDepth 100000 in
set_option maxHeartbeats 1600000 in
theorem putLC_any (B b : Nat) (w0 w : World) (xs : List UInt8) (A : Option Addr) (n cap : Nat) (cs : List Co) (h : Wr B b w xs) (hB : B = w0.heap.size) (h0 : Below B w0 w) (hr : RowC w0 A n cs) (hn : n ≤ maxLen) (hl : xs.length + ((enc (n : Int)).length + (flC cs n).length) ≤ 90000000) :
    Calls Tryz.prog 81 #[.pointer (some ⟨b, 0, none⟩), .slice A n cap, .func (.func 82) #[] #[]] w fun e w' => Put B b w (xs ++ (enc (n : Int) ++ flC cs n)) e w' := by
  subst hB
  unfold maxLen at hn
  have hcl := hr.1
  have hI : I64 (n : Int) := by unfold I64; omega
  have hC := putI1 w0.heap.size b w xs (n : Int) h hI (by omega)
  have hBw := h.2.1
  clear hI
  go_enter Tryz.func81, Tryz.ntmps81
  go_wp2_with fail
  refine hC.mono ?_
  rintro e w1 ⟨rfl, hw1, hb1, hk1⟩
  clear hC h
  go_wp2_with fail
  go_loopw [15] (fun i wr => ∃ (k : Nat) (y : List UInt8), k ≤ n ∧ i = .int .i64 k ∧ Hid (y = xs ++ (enc (n : Int) ++ flC cs k)) ∧ Wr w0.heap.size b wr y ∧ Below w0.heap.size w wr ∧ Kps b w wr) (fun i _ => n - (intOf i).toNat)
  case atStart => exact ⟨0, xs ++ enc (n : Int), by omega, rfl, show _ = _ by simp [flC], hw1, hb1, hk1⟩
  case round =>
    obtain ⟨k, y, hk, rfl, HY, hwr, hbr, hkr⟩ := hrel
    clear hw1 hb1 hk1
    by_cases hlt : k < n
    · obtain ⟨cb, coff, rfl, hcbl, hcell⟩ := hr.2.2 (by omega)
      have hbz := h0.trans hbr
      obtain ⟨x0, x1, x2, x3, x4, x5⟩ := (hcell k hlt).keep fun i => hbz.cell (p := ⟨cb, i, none⟩) hcbl
      have hs := flC_succ (cols := cs) (k := k) (show k < cs.length by omega)
      have hle := flC_le (cols := cs) (k := k + 1) (n := n) hcl.symm
      have hle0 := flC_le (cols := cs) (k := k) (n := n) hcl.symm
      rw [hs, List.length_append] at hle
      have HK : Hid (y ++ encC (cs.getD k default) = xs ++ (enc (n : Int) ++ flC cs (k + 1))) := by show _ = _; rw [hs, HY.out]; simp only [List.append_assoc]
      have hok := hr.2.1 _ (getD_in (l := cs) (k := k) (by omega))
      have hyl : y.length ≤ xs.length + ((enc (n : Int)).length + (flC cs k).length) := by rw [HY.out]; simp only [List.length_append]; omega
      clear hs hcell
      generalize cs.getD k default = c at *
      have hP := putC_any w0.heap.size b (wr.alloc (.cells #[.string ⟨c.name.toArray⟩, .int .i64 c.kind, .bool c.nn, .bool c.un, .string ⟨c.ref.toArray⟩, .int .i64 c.del] 54)) y c (hwr.alloc _) hok.kind hok.del (by omega)
      have hBr : w0.heap.size ≤ wr.heap.size := hwr.2.1
      unfold Co.val at hP
      go_wp2_with fail
      refine hP.mono ?_
      rintro e w3 ⟨rfl, hw3, hb3, hk3⟩
      have hb4 := hbr.trans (((Below.refl w0.heap.size wr).alloc hBr _).trans hb3)
      have hk4 := hkr.trans hk3.alloc_l
      clear hP
      go_wp2_with fail
      exact ⟨⟨k + 1, _, by omega, by go_num, HK, hw3, hb4, hk4⟩, by simp [intOf]; omega⟩
    · obtain rfl : n = k := by omega
      go_wp2_with fail
      go_end0
      exact ⟨rfl, by rw [HY.out] at hwr; exact hwr, hbr, hkr⟩

set_option maxRecDepth 100000 in
set_option maxHeartbeats 1600000 in
theorem putLG_any (B b : Nat) (w0 w : World) (xs : List UInt8) (A : Option Addr) (n cap : Nat) (cs : List Gr) (h : Wr B b w xs) (hB : B = w0.heap.size) (h0 : Below B w0 w) (hr : RowG w0 A n cs) (hn : n ≤ maxLen) (hl : xs.length + ((enc (n : Int)).length + (flG cs n).length) ≤ 90000000) :
    Calls Tryz.prog 49 #[.pointer (some ⟨b, 0, none⟩), .slice A n cap, .func (.func 50) #[] #[]] w fun e w' => Put B b w (xs ++ (enc (n : Int) ++ flG cs n)) e w' := by
  subst hB
  unfold maxLen at hn
  have hcl := hr.1
  have hI : I64 (n : Int) := by unfold I64; omega
  have hC := putI1 w0.heap.size b w xs (n : Int) h hI (by omega)
  have hBw := h.2.1
  clear hI
  go_enter Tryz.func49, Tryz.ntmps49
  go_wp2_with fail
  refine hC.mono ?_
  rintro e w1 ⟨rfl, hw1, hb1, hk1⟩
  clear hC h
  go_wp2_with fail
  go_loopw [15] (fun i wr => ∃ (k : Nat) (y : List UInt8), k ≤ n ∧ i = .int .i64 k ∧ Hid (y = xs ++ (enc (n : Int) ++ flG cs k)) ∧ Wr w0.heap.size b wr y ∧ Below w0.heap.size w wr ∧ Kps b w wr) (fun i _ => n - (intOf i).toNat)
  case atStart => exact ⟨0, xs ++ enc (n : Int), by omega, rfl, show _ = _ by simp [flG], hw1, hb1, hk1⟩
  case round =>
    obtain ⟨k, y, hk, rfl, HY, hwr, hbr, hkr⟩ := hrel
    clear hw1 hb1 hk1
    by_cases hlt : k < n
    · obtain ⟨cb, coff, rfl, hcbl, hcell⟩ := hr.2.2 (by omega)
      have hbz := h0.trans hbr
      obtain ⟨x0, x1, x2⟩ := (hcell k hlt).keep fun i => hbz.cell (p := ⟨cb, i, none⟩) hcbl
      have hs := flG_succ (gs := cs) (k := k) (show k < cs.length by omega)
      have hle := flG_le (gs := cs) (k := k + 1) (n := n) hcl.symm
      have hle0 := flG_le (gs := cs) (k := k) (n := n) hcl.symm
      rw [hs, List.length_append] at hle
      have HK : Hid (y ++ encG (cs.getD k default) = xs ++ (enc (n : Int) ++ flG cs (k + 1))) := by show _ = _; rw [hs, HY.out]; simp only [List.append_assoc]
      have hok := hr.2.1 _ (getD_in (l := cs) (k := k) (by omega))
      have hyl : y.length ≤ xs.length + ((enc (n : Int)).length + (flG cs k).length) := by rw [HY.out]; simp only [List.length_append]; omega
      clear hs hcell
      generalize cs.getD k default = c at *
      have hP := putG_any w0.heap.size b (wr.alloc (.cells #[.int .i64 c.role, .string ⟨c.table.toArray⟩, .int .i64 c.bits] 50)) y c (hwr.alloc _) hok.role hok.bits (by omega)
      have hBr : w0.heap.size ≤ wr.heap.size := hwr.2.1
      unfold Gr.val at hP
      go_wp2_with fail
      refine hP.mono ?_
      rintro e w3 ⟨rfl, hw3, hb3, hk3⟩
      have hb4 := hbr.trans (((Below.refl w0.heap.size wr).alloc hBr _).trans hb3)
      have hk4 := hkr.trans hk3.alloc_l
      clear hP
      go_wp2_with fail
      exact ⟨⟨k + 1, _, by omega, by go_num, HK, hw3, hb4, hk4⟩, by simp [intOf]; omega⟩
    · obtain rfl : n = k := by omega
      go_wp2_with fail
      go_end0
      exact ⟨rfl, by rw [HY.out] at hwr; exact hwr, hbr, hkr⟩
end Go.Proofs.YtnhalfdddcjicaaGreat
