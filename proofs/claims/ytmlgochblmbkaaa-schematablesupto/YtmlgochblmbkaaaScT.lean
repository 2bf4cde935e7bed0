/- The walk of Find. -/
import Derived.Test.YtmlgochblmbkaaaScR
namespace Go.Proofs.Ytmlgochblmbkaaa
open Go.RowKit

set_option maxRecDepth 100000 in
set_option maxHeartbeats 3200000 in
theorem find_any (s : Sc) (x : List UInt8) (w : World) (hs : InS w s) (hw : wtS s ≤ 1048576) :
    Calls Try.prog 10 #[s.val, .string ⟨x.toArray⟩] w fun e w' => ∃ o : Tb, e = .returned (.tuple #[o.val, .bool (decide (0 ≤ firstI (fun j => (s.tab j).name) x s.tn))]) ∧
      (∀ i : Nat, firstI (fun j => (s.tab j).name) x s.tn = (i : Int) → i < s.tn ∧ InT w' o ∧ simT o (s.tab i)) ∧ Below w.heap.size w w' := by
  obtain ⟨W, hW⟩ : ∃ W, (w.alloc (.cells #[.int .i64 s.ver, .slice s.tA s.tn s.tcap, .slice s.gA s.gn s.gcap] 29)).alloc
    (.cells #[.string ⟨#[]⟩, .int .i64 0, .slice none 0 0, .slice none 0 0] 25) = W := ⟨_, rfl⟩
  have b3 : Below w.heap.size w W := by
    rw [← hW]
    have b0 := below_box w (.cells #[.int .i64 s.ver, .slice s.tA s.tn s.tcap, .slice s.gA s.gn s.gcap] 29)
    exact b0.alloc b0.size _
  have aS : At W w.heap.size 29 #[.int .i64 s.ver, .slice s.tA s.tn s.tcap, .slice s.gA s.gn s.gcap] := by
    rw [← hW]; exact (At.fresh _ _ _).alloc _
  have aR : At W (w.heap.size + 1) 25 #[.string ⟨#[]⟩, .int .i64 0, .slice none 0 0, .slice none 0 0] := by
    rw [← hW]
    have := At.fresh (w.alloc (.cells #[.int .i64 s.ver, .slice s.tA s.tn s.tcap, .slice s.gA s.gn s.gcap] 29)) 25 #[.string ⟨#[]⟩, .int .i64 0, .slice none 0 0, .slice none 0 0]
    simp only [World.size_alloc] at this
    exact this
  have hp := place_any s x W (hs.below b3)
  have hc := firstI_cases (fun j => (s.tab j).name) x s.tn
  have htm := hs.tmax
  have hT := hs.tabs
  unfold maxLen at htm
  generalize firstI (fun j => (s.tab j).name) x s.tn = f at *
  have hwT : ∀ i, i < s.tn → wtT (s.tab i) ≤ 1048576 := fun i hi => by
    have : wtT (s.tab i) ≤ sumN s.tn fun j => wtT (s.tab j) := sumN_at (fun j => wtT (s.tab j)) hi
    unfold wtS at hw
    omega
  clear hw hs
  simp only [Sc.val] at hp ⊢
  rcases hc with rfl | ⟨i, rfl, hi, -⟩
  · have hWc := Lib.hid hW
    clear hW
    go_enter Try.func10, Try.ntmps10
    go_wp2_with fail
    rw [hWc.out]
    clear hWc
    refine hp.mono ?_
    rintro e w2 ⟨rfl, b2⟩
    have hb2 := below_in b3 b2
    obtain ⟨q0, q1, q2, q3, y0, y1, y2, y3⟩ := (aR.below b2 aR.lt).four
    have hfin := fun x y z q => below_set4 (g := w.heap.size + 1) hb2 (by omega) x y z q
    go_wp2_with fail
    refine bodyPost_ret (v := .tuple #[(⟨[], 0, none, 0, 0, [], none, 0, 0, fun _ => .nil⟩ : Tb).val, .bool false]) (by simp [results, Try.results10, go_sem, Tb.val, q0, q1, q2, q3]) rfl ⟨⟨[], 0, none, 0, 0, [], none, 0, 0, fun _ => .nil⟩, by simp, fun i h => by omega, hfin _ _ _ _⟩
  · obtain ⟨b, off, htA, hlt, hcell⟩ := hT (by omega)
    obtain ⟨hcl, hinT⟩ := hcell i hi
    have hii : (i : Int) < (s.tn : Int) := by omega
    have hwi := hwT i hi
    rw [htA] at hW hp aS ⊢
    have hWc := Lib.hid hW
    obtain ⟨o, ho⟩ : ∃ o, s.tab i = o := ⟨_, rfl⟩
    rw [ho] at hcl hinT hwi
    have HO := Lib.hid ho
    clear ho
    clear hcell hT hwT hW
    go_enter Try.func10, Try.ntmps10
    go_wp2_with fail
    rw [hWc.out]
    clear hWc
    refine hp.mono ?_
    rintro e w2 ⟨rfl, b2⟩
    have hb2 := below_in b3 b2
    have aR2 := aR.below b2 aR.lt
    have aS2 := aS.below b2 aS.lt
    have s1 : w2.cell? ⟨w.heap.size, 1, none⟩ = some (.slice (some ⟨b, off, none⟩) s.tn s.tcap) := aS2.cell 1
    obtain ⟨o0, o1, o2, o3⟩ := hcl.keep fun j => hb2.cell (p := ⟨b, j, none⟩) hlt
    have hcp := copyT_any o w2 (hinT.below hb2) hwi
    have hneg : decide ((i : Int) < 0) = false := by simp
    unfold Tb.val at hcp
    clear hp hcl hinT aS aS2 b3
    go_wp2_with fail
    refine hcp.mono ?_
    rintro e w3 ⟨o', rfl, hin3, hsim3, b3⟩
    have hb3 := below_in hb2 b3
    have aR3 := aR2.below b3 aR2.lt
    obtain ⟨q0, q1, q2, q3, y0, y1, y2, y3⟩ := aR3.four
    have hfin := fun x y z q => below_set4 (g := w.heap.size + 1) hb3 (by omega) x y z q
    go_wp2_with fail
    refine bodyPost_ret (v := .tuple #[o'.val, .bool true]) (by simp [results, Try.results10, go_sem, Tb.val, q0, q1, q2, q3]) rfl ⟨o', by simp, fun i' hi' => ?_, hfin _ _ _ _⟩
    obtain rfl : i = i' := by omega
    refine ⟨hi, hin3 _ (by simp [World.setCell]) (fun b hb _ => ?_), by rw [HO.out]; exact hsim3⟩
    have h1 := aR.lt
    have h2 := b2.size
    exact (Below.heap_setCell _ _ _ _ (fun e : b = w.heap.size + 1 => by omega)).trans ((Below.heap_setCell _ _ _ _ (fun e : b = w.heap.size + 1 => by omega)).trans ((Below.heap_setCell _ _ _ _ (fun e : b = w.heap.size + 1 => by omega)).trans (Below.heap_setCell _ _ _ _ (fun e : b = w.heap.size + 1 => by omega))))
end Go.Proofs.Ytmlgochblmbkaaa
