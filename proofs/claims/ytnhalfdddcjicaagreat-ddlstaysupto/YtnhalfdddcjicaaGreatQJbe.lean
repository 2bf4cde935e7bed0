/- The walk of Find. -/
/- Of how many parts an expression is, how deep: Size walked exactly; what it says of nodesLeft. -/
import Derived.Test.YtnhalfdddcjicaaGreatQJao
namespace Go.Proofs.YtnhalfdddcjicaaGreat
open Go.RowKit

set_option maxRecDepth 100000 in
set_option maxHeartbeats 3200000 in
theorem find_any (s : Sc) (x : List UInt8) (w : World) (hs : InS w s) (hw : wtS s ≤ 1048576) :
    Calls Tryz.prog 70 #[s.val, .string ⟨x.toArray⟩] w fun e w' => ∃ o : Tb, e = .returned (.tuple #[o.val, .bool (decide (0 ≤ firstI (fun j => (s.tab j).name) x s.tn))]) ∧
      (∀ i : Nat, firstI (fun j => (s.tab j).name) x s.tn = (i : Int) → i < s.tn ∧ InT w' o ∧ simT o (s.tab i)) ∧ Below w.heap.size w w' := by
  obtain ⟨W, hW⟩ : ∃ W, (w.alloc (.cells #[.int .i64 s.ver, .slice s.tA s.tn s.tcap, .slice s.gA s.gn s.gcap] 25)).alloc
    (.cells #[.string ⟨#[]⟩, .int .i64 0, .slice none 0 0, .slice none 0 0] 32) = W := ⟨_, rfl⟩
  have b3 : Below w.heap.size w W := by
    rw [← hW]
    have b0 := below_box w (.cells #[.int .i64 s.ver, .slice s.tA s.tn s.tcap, .slice s.gA s.gn s.gcap] 25)
    exact b0.alloc b0.size _
  have aS : At W w.heap.size 25 #[.int .i64 s.ver, .slice s.tA s.tn s.tcap, .slice s.gA s.gn s.gcap] := by
    rw [← hW]; exact (At.fresh _ _ _).alloc _
  have aR : At W (w.heap.size + 1) 32 #[.string ⟨#[]⟩, .int .i64 0, .slice none 0 0, .slice none 0 0] := by
    rw [← hW]
    have := At.fresh (w.alloc (.cells #[.int .i64 s.ver, .slice s.tA s.tn s.tcap, .slice s.gA s.gn s.gcap] 25)) 32 #[.string ⟨#[]⟩, .int .i64 0, .slice none 0 0, .slice none 0 0]
    simp only [World.size_alloc] at this
    exact this
  have hp := place_any s x W (hs.below b3)
  have hc := firstI_cases (fun j => (s.tab j).name) x s.tn
  have htm := hs.tmax
  have hT := hs.tabs
  unfold maxLen at htm
  generalize firstI (fun j => (s.tab j).name) x s.tn = f at *
  have hwT : ∀ i, i < s.tn → wtT (s.tab i) ≤ 1048576 := fun i hi => by
    have : wtT (s.tab i) ≤ sumN s.tn fun j => wtT (s.tab j) := sumN_at (fun j => wtT (s.tab j)) hi
    unfold wtS at hw
    omega
  clear hw hs
  simp only [Sc.val] at hp ⊢
  rcases hc with rfl | ⟨i, rfl, hi, -⟩
  · have hWc := Lib.hid hW
    clear hW
    go_enter Tryz.func70, Tryz.ntmps70
    go_wp2_with fail
    rw [hWc.out]
    clear hWc
    refine hp.mono ?_
    rintro e w2 ⟨rfl, b2⟩
    have hb2 := below_in b3 b2
    obtain ⟨q0, q1, q2, q3, y0, y1, y2, y3⟩ := (aR.below b2 aR.lt).four
    have hfin := fun x y z q => below_set4 (g := w.heap.size + 1) hb2 (by omega) x y z q
    go_wp2_with fail
    refine bodyPost_ret (v := .tuple #[(⟨[], 0, none, 0, 0, [], none, 0, 0, fun _ => .nil⟩ : Tb).val, .bool false]) (by simp [results, Tryz.results70, go_sem, Tb.val, q0, q1, q2, q3]) rfl ⟨⟨[], 0, none, 0, 0, [], none, 0, 0, fun _ => .nil⟩, by simp, fun i h => by omega, hfin _ _ _ _⟩
  · obtain ⟨b, off, htA, hlt, hcell⟩ := hT (by omega)
    obtain ⟨hcl, hinT⟩ := hcell i hi
    have hii : (i : Int) < (s.tn : Int) := by omega
    have hwi := hwT i hi
    rw [htA] at hW hp aS ⊢
    have hWc := Lib.hid hW
    obtain ⟨o, ho⟩ : ∃ o, s.tab i = o := ⟨_, rfl⟩
    rw [ho] at hcl hinT hwi
    have HO := Lib.hid ho
    clear ho
    clear hcell hT hwT hW
    go_enter Tryz.func70, Tryz.ntmps70
    go_wp2_with fail
    rw [hWc.out]
    clear hWc
    refine hp.mono ?_
    rintro e w2 ⟨rfl, b2⟩
    have hb2 := below_in b3 b2
    have aR2 := aR.below b2 aR.lt
    have aS2 := aS.below b2 aS.lt
    have s1 : w2.cell? ⟨w.heap.size, 1, none⟩ = some (.slice (some ⟨b, off, none⟩) s.tn s.tcap) := aS2.cell 1
    obtain ⟨o0, o1, o2, o3⟩ := hcl.keep fun j => hb2.cell (p := ⟨b, j, none⟩) hlt
    have hcp := copyT_any o w2 (hinT.below hb2) hwi
    have hneg : decide ((i : Int) < 0) = false := by simp
    unfold Tb.val at hcp
    clear hp hcl hinT aS aS2 b3
    go_wp2_with fail
    refine hcp.mono ?_
    rintro e w3 ⟨o', rfl, hin3, hsim3, b3⟩
    have hb3 := below_in hb2 b3
    have aR3 := aR2.below b3 aR2.lt
    obtain ⟨q0, q1, q2, q3, y0, y1, y2, y3⟩ := aR3.four
    have hfin := fun x y z q => below_set4 (g := w.heap.size + 1) hb3 (by omega) x y z q
    go_wp2_with fail
    refine bodyPost_ret (v := .tuple #[o'.val, .bool true]) (by simp [results, Tryz.results70, go_sem, Tb.val, q0, q1, q2, q3]) rfl ⟨o', by simp, fun i' hi' => ?_, hfin _ _ _ _⟩
    obtain rfl : i = i' := by omega
    refine ⟨hi, hin3 _ (by simp [World.setCell]) (fun b hb _ => ?_), by rw [HO.out]; exact hsim3⟩
    have h1 := aR.lt
    have h2 := b2.size
    exact (Below.heap_setCell _ _ _ _ (fun e : b = w.heap.size + 1 => by omega)).trans ((Below.heap_setCell _ _ _ _ (fun e : b = w.heap.size + 1 => by omega)).trans ((Below.heap_setCell _ _ _ _ (fun e : b = w.heap.size + 1 => by omega)).trans (Below.heap_setCell _ _ _ _ (fun e : b = w.heap.size + 1 => by omega))))
end Go.Proofs.YtnhalfdddcjicaaGreat

namespace Go.Proofs.YtnhalfdddcjicaaGreat
open Go.RowKit

def maxN : Nat → (Nat → Nat) → Nat
  | 0, _ => 0
  | n + 1, f => max (maxN n f) (f n)
theorem maxN_le {n : Nat} {f : Nat → Nat} {m : Nat} (h : ∀ j, j < n → f j ≤ m) : maxN n f ≤ m := by
  induction n with
  | zero => exact Nat.zero_le _
  | succ n ih => rw [maxN]; have := ih fun j hj => h j (by omega); have := h n (by omega); omega
theorem maxN_iff {n : Nat} {f : Nat → Nat} {m : Nat} : maxN n f ≤ m ↔ ∀ j, j < n → f j ≤ m := by
  refine ⟨fun h => ?_, maxN_le⟩
  induction n with
  | zero => intro j hj; omega
  | succ n ih =>
    rw [maxN] at h
    intro j hj
    by_cases hjn : j = n
    · subst hjn; omega
    · exact ih (by omega) j (by omega)
def sizeE : Ex → Nat
  | .nil => 0
  | .mk _ _ _ _ n _ arg => 1 + sumN n fun j => sizeE (arg j)
def deepE : Ex → Nat
  | .nil => 0
  | .mk _ _ _ _ n _ arg => 1 + maxN n fun j => deepE (arg j)
theorem sizeE_le : ∀ e, sizeE e ≤ wtE e
  | .nil => Nat.le_refl _
  | .mk _ _ v _ n _ arg => by
    rw [sizeE, wtE]
    have := sumN_mono (n := n) (f := fun j => sizeE (arg j)) (g := fun j => wtE (arg j)) fun j _ => sizeE_le (arg j)
    omega
theorem deepE_le : ∀ e, deepE e ≤ sizeE e
  | .nil => Nat.le_refl _
  | .mk _ _ v _ n _ arg => by
    rw [sizeE, deepE]
    have := maxN_le (n := n) (f := fun j => deepE (arg j)) (m := sumN n fun j => sizeE (arg j)) fun j hj => Nat.le_trans (deepE_le (arg j)) (sumN_at (fun j => sizeE (arg j)) hj)
    omega
/-- No part is missing. -/
def Full : Ex → Prop
  | .nil => False
  | .mk _ _ _ _ n _ arg => ∀ j, j < n → Full (arg j)
theorem full_of_in {w : World} : ∀ {e : Ex}, InE w e → Full e
  | .nil, h => h
  | .mk _ _ _ _ n _ arg, h => by
    rw [InE] at h
    rw [Full]
    intro j hj
    obtain ⟨b, off, _, _, hc⟩ := h.2.2.2.2 (by omega)
    exact full_of_in (hc j hj).2
theorem size_pos : ∀ {e : Ex}, Full e → 1 ≤ sizeE e ∧ 1 ≤ deepE e
  | .nil, h => h.elim
  | .mk _ _ _ _ n _ arg, _ => by rw [sizeE, deepE]; omega
/-- nodesLeft says just that. -/
theorem leftE_is : ∀ (e : Ex) (nodes levels : Int), Full e → 0 ≤ nodes → 0 ≤ levels → leftE e nodes levels = if (sizeE e : Int) ≤ nodes ∧ (deepE e : Int) ≤ levels then nodes - sizeE e else -1
  | .nil, _, _, h, _, _ => h.elim
  | .mk op col v A n cap arg, nodes, levels, hf, h1, h2 => by
    rw [Full] at hf
    rw [leftE_mk, sizeE, deepE]
    by_cases h0 : nodes = 0 ∨ levels = 0
    · rw [if_pos h0, if_neg (by omega)]
    rw [if_neg h0]
    have key : ∀ k, k ≤ n → leftTo arg nodes levels k = if ((1 + sumN k fun j => sizeE (arg j) : Nat) : Int) ≤ nodes ∧ ((maxN k fun j => deepE (arg j) : Nat) : Int) ≤ levels - 1 then nodes - ((1 + sumN k fun j => sizeE (arg j) : Nat) : Int) else -1 := fun k => by
      induction k with
      | zero => intro _; rw [leftTo_zero]; simp only [sumN, maxN, List.range_zero, List.map_nil, List.sum_nil]; rw [if_pos (by omega)]; omega
      | succ k ih =>
        intro hk
        have hi := ih (by omega)
        have hp := size_pos (hf k (by omega))
        rw [leftTo_succ, sumN_succ, maxN]
        by_cases hc : ((1 + sumN k fun j => sizeE (arg j) : Nat) : Int) ≤ nodes ∧ ((maxN k fun j => deepE (arg j) : Nat) : Int) ≤ levels - 1
        · rw [if_pos hc] at hi
          rw [hi, if_neg (by omega), leftE_is (arg k) _ _ (hf k (by omega)) (by omega) (by omega)]
          by_cases hd : (sizeE (arg k) : Int) ≤ nodes - ((1 + sumN k fun j => sizeE (arg j) : Nat) : Int) ∧ (deepE (arg k) : Int) ≤ levels - 1
          · rw [if_pos hd, if_pos (by omega)]; omega
          · rw [if_neg hd, if_neg (by omega)]
        · rw [if_neg hc] at hi
          rw [hi, if_pos (by omega), if_neg (by omega)]
    rw [key n (Nat.le_refl _)]
    by_cases hc : ((1 + sumN n fun j => sizeE (arg j) : Nat) : Int) ≤ nodes ∧ ((maxN n fun j => deepE (arg j) : Nat) : Int) ≤ levels - 1
    · rw [if_pos hc, if_pos (by omega)]
    · rw [if_neg hc, if_neg (by omega)]
theorem long_is {e : Ex} (h : Full e) : leftE e 24 8 < 0 ↔ 24 < sizeE e ∨ 8 < deepE e := by
  rw [leftE_is e 24 8 h (by omega) (by omega)]
  split <;> omega

set_option maxRecDepth 100000 in
set_option maxHeartbeats 1600000 in
theorem sizeX_any (e : Ex) : ∀ (w : World), InE w e → wtE e ≤ 2000000 → Calls Tryz.prog 68 #[e.val] w fun en w' => en = .returned (.tuple #[.int .i64 (sizeE e : Int), .int .i64 (deepE e : Int)]) ∧ Below w.heap.size w w' := by
  induction e with
  | nil => intro w h; exact h.elim
  | mk op col v B p cp arg ih =>
    intro w hin hwt
    have HS : Hid (sizeE (.mk op col v B p cp arg) = 1 + sumN p fun j => sizeE (arg j)) := by rw [sizeE]; exact Lib.hid rfl
    have HD : Hid (deepE (.mk op col v B p cp arg) = 1 + maxN p fun j => deepE (arg j)) := by rw [deepE]; exact Lib.hid rfl
    have hsl := sizeE_le (.mk op col v B p cp arg)
    have hdl := deepE_le (.mk op col v B p cp arg)
    rw [InE] at hin
    obtain ⟨-, -, -, hp, harg⟩ := hin
    rw [HS.out] at hsl
    rw [HD.out, HS.out] at hdl
    have hsk : ∀ k, k ≤ p → (sumN k fun j => sizeE (arg j)) ≤ 2000000 := fun k hk => by have := sumN_le (fun j => sizeE (arg j)) hk; omega
    have hdk : ∀ k, k ≤ p → (maxN k fun j => deepE (arg j)) ≤ 2000000 := fun k hk => by
      have : maxN k (fun j => deepE (arg j)) ≤ maxN p fun j => deepE (arg j) := maxN_le fun j hj => (maxN_iff.1 (Nat.le_refl (maxN p fun j => deepE (arg j)))) j (by omega)
      omega
    have hwj : ∀ j, j < p → wtE (arg j) ≤ 2000000 := fun j hj => by
      have : wtE (arg j) ≤ sumN p fun j => wtE (arg j) := sumN_at (fun j => wtE (arg j)) hj
      rw [wtE] at hwt; omega
    unfold maxLen at hp
    clear hwt hsl hdl
    generalize sizeE (.mk op col v B p cp arg) = sz at *
    generalize deepE (.mk op col v B p cp arg) = dz at *
    simp only [Ex.val, Ex.op, Ex.col, Ex.v, Ex.A, Ex.n, Ex.cap]
    have hb := below_box w (.cells #[.int .i64 op, .int .i64 col, .int .i64 v.kind, .int .i64 v.num, .string ⟨v.text.toArray⟩, .slice B p cp] 67)
    go_enter Tryz.func68, Tryz.ntmps68
    go_wp2
    go_loopw [4, 5, 13] (fun nv dv i wr => ∃ (k a d : Nat), k ≤ p ∧ i = .int .i64 k ∧ nv = .int .i64 (a : Int) ∧ dv = .int .i64 (d : Int) ∧ Hid (a = 1 + sumN k fun j => sizeE (arg j)) ∧ Hid (d = maxN k fun j => deepE (arg j)) ∧ Below w.heap.size w wr) (fun _ _ i _ => p - (intOf i).toNat)
    case atStart => exact ⟨0, 1, 0, by omega, rfl, rfl, rfl, Lib.hid (by simp [sumN]), Lib.hid rfl, hb⟩
    case round =>
      obtain ⟨k, a, d, hk, rfl, rfl, rfl, ha, hd, hbr⟩ := hrel
      by_cases hlt : k < p
      · obtain ⟨b, off, rfl, hbl, hcell⟩ := harg (by omega)
        have hcl := (hcell k hlt).1.below hbr hbl
        have hik := (hcell k hlt).2.below hbr
        have iha := fun w' (b' : Below wr.heap.size wr w') => ih k w' (hik.below b') (hwj k hlt)
        have ha1 : Hid (a + sizeE (arg k) = 1 + sumN (k + 1) fun j => sizeE (arg j)) := Lib.hid (by rw [ha.out, sumN_succ]; omega)
        have hd1 : Hid (max d (deepE (arg k)) = maxN (k + 1) fun j => deepE (arg j)) := Lib.hid (by rw [hd.out]; rfl)
        have hs1 := hsk (k + 1) hlt
        have hs0 := ha1.out
        unfold Ex.val at iha
        clear ih hcell hik harg hsk hdk hwj HS HD ha hd
        generalize sizeE (arg k) = y at *
        generalize deepE (arg k) = z at *
        have hay : a + y ≤ 2000001 := by omega
        clear hs1 hs0
        obtain ⟨c0, c1, c2, c3, c4, c5⟩ := hcl
        have hbx := below_box wr (.cells #[.int .i64 (arg k).op, .int .i64 (arg k).col, .int .i64 (arg k).v.kind, .int .i64 (arg k).v.num, .string ⟨(arg k).v.text.toArray⟩, .slice (arg k).A (arg k).n (arg k).cap] 67)
        go_wp2_with fail
        refine (iha _ hbx).mono ?_
        rintro e w2 ⟨rfl, b2⟩
        have hb2 := below_in hbr (below_in hbx b2)
        go_wp2_with fail
        refine ⟨⟨k + 1, a + y, max d z, by omega, by go_num, by go_num, ?_, ha1, hd1, hb2⟩, by simp [intOf]; omega⟩
        refine congrArg (Value.int IntKind.i64) ?_
        first | omega | (split <;> omega)
      · obtain rfl : k = p := by omega
        have hs1 := hsk k (Nat.le_refl _)
        have hd1 := hdk k (Nat.le_refl _)
        rw [← ha.out] at HS
        rw [← hd.out] at HD hd1
        have ha2 := ha.out
        clear ih harg hsk hdk hwj
        go_wp2_with fail
        refine bodyPost_ret (results_tmp2 rfl _ _ _) rfl ⟨?_, hbr⟩
        rw [HS.out, HD.out]
        show Ending.returned (.tuple #[.int .i64 (a : Int), .int .i64 ((d : Int) + 1)]) = _
        rw [show ((1 + d : Nat) : Int) = (d : Int) + 1 by omega]
end Go.Proofs.YtnhalfdddcjicaaGreat
