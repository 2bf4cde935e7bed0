/- Tables that keep whatever is written elsewhere; the walks of copyTable and copySchema. -/
import Derived.Test.YtnhalfdddcjicaaGreatQDdB
namespace Go.Proofs.YtnhalfdddcjicaaGreat
open Go.RowKit

/-- A table in memory, whatever turns but the blocks of p. -/
def KeepT (p : Nat → Prop) (w : World) (x : Tb) : Prop := ∀ w', w.heap.size ≤ w'.heap.size → (∀ b, p b → b < w.heap.size → w'.heap[b]? = w.heap[b]?) → InT w' x
theorem KeepT.inT {p : Nat → Prop} {w : World} {x : Tb} (h : KeepT p w x) : InT w x := h w (Nat.le_refl _) fun _ _ _ => rfl
theorem KeepT.keep {p q : Nat → Prop} {w w' : World} {x : Tb} (h : KeepT p w x) (hs : w.heap.size ≤ w'.heap.size) (hk : ∀ b, p b → b < w.heap.size → w'.heap[b]? = w.heap[b]?) (hq : ∀ b, p b → b < w.heap.size → q b) : KeepT q w' x :=
  fun w'' s k => h w'' (Nat.le_trans hs s) fun b hb hl => (k b (hq b hb hl) (Nat.lt_of_lt_of_le hl hs)).trans (hk b hb hl)
theorem KeepT.below {p : Nat → Prop} {w w' : World} {x : Tb} (h : KeepT p w x) (hb : Below w.heap.size w w') : KeepT p w' x := h.keep hb.size (fun b _ hl => hb.block b hl) (fun _ hb _ => hb)

set_option maxRecDepth 100000 in
set_option maxHeartbeats 3200000 in
theorem find2_any (s : Sc) (x : List UInt8) (w : World) (hs : InS w s) (hw : wtS s ≤ 1048576) :
    Calls Tryz.prog 70 #[s.val, .string ⟨x.toArray⟩] w fun e w' => ∃ o : Tb, e = .returned (.tuple #[o.val, .bool (decide (0 ≤ firstI (fun j => (s.tab j).name) x s.tn))]) ∧
      (∀ i : Nat, firstI (fun j => (s.tab j).name) x s.tn = (i : Int) → i < s.tn ∧ KeepT (fun b => w.heap.size ≤ b) w' o ∧ simT o (s.tab i)) ∧ Below w.heap.size w w' := by
  obtain ⟨W, hW⟩ : ∃ W, (w.alloc (.cells #[.int .i64 s.ver, .slice s.tA s.tn s.tcap, .slice s.gA s.gn s.gcap] 25)).alloc
    (.cells #[.string ⟨#[]⟩, .int .i64 0, .slice none 0 0, .slice none 0 0] 32) = W := ⟨_, rfl⟩
  have b3 : Below w.heap.size w W := by
    rw [← hW]
    have b0 := below_box w (.cells #[.int .i64 s.ver, .slice s.tA s.tn s.tcap, .slice s.gA s.gn s.gcap] 25)
    exact b0.alloc b0.size _
  have aS : At W w.heap.size 25 #[.int .i64 s.ver, .slice s.tA s.tn s.tcap, .slice s.gA s.gn s.gcap] := by
    rw [← hW]; exact (At.fresh _ _ _).alloc _
  have aR : At W (w.heap.size + 1) 32 #[.string ⟨#[]⟩, .int .i64 0, .slice none 0 0, .slice none 0 0] := by
    rw [← hW]
    have := At.fresh (w.alloc (.cells #[.int .i64 s.ver, .slice s.tA s.tn s.tcap, .slice s.gA s.gn s.gcap] 25)) 32 #[.string ⟨#[]⟩, .int .i64 0, .slice none 0 0, .slice none 0 0]
    simp only [World.size_alloc] at this
    exact this
  have hp := place_any s x W (hs.below b3)
  have hc := firstI_cases (fun j => (s.tab j).name) x s.tn
  have htm := hs.tmax
  have hT := hs.tabs
  unfold maxLen at htm
  generalize firstI (fun j => (s.tab j).name) x s.tn = f at *
  have hwT : ∀ i, i < s.tn → wtT (s.tab i) ≤ 1048576 := fun i hi => by
    have : wtT (s.tab i) ≤ sumN s.tn fun j => wtT (s.tab j) := sumN_at (fun j => wtT (s.tab j)) hi
    unfold wtS at hw
    omega
  clear hw hs
  simp only [Sc.val] at hp ⊢
  rcases hc with rfl | ⟨i, rfl, hi, -⟩
  · have hWc := Lib.hid hW
    clear hW
    go_enter Tryz.func70, Tryz.ntmps70
    go_wp2_with fail
    rw [hWc.out]
    clear hWc
    refine hp.mono ?_
    rintro e w2 ⟨rfl, b2⟩
    have hb2 := below_in b3 b2
    obtain ⟨q0, q1, q2, q3, y0, y1, y2, y3⟩ := (aR.below b2 aR.lt).four
    have hfin := fun x y z q => below_set4 (g := w.heap.size + 1) hb2 (by omega) x y z q
    go_wp2_with fail
    refine bodyPost_ret (v := .tuple #[(⟨[], 0, none, 0, 0, [], none, 0, 0, fun _ => .nil⟩ : Tb).val, .bool false]) (by simp [results, Tryz.results70, go_sem, Tb.val, q0, q1, q2, q3]) rfl ⟨⟨[], 0, none, 0, 0, [], none, 0, 0, fun _ => .nil⟩, by simp, fun i h => by omega, hfin _ _ _ _⟩
  · obtain ⟨b, off, htA, hlt, hcell⟩ := hT (by omega)
    obtain ⟨hcl, hinT⟩ := hcell i hi
    have hii : (i : Int) < (s.tn : Int) := by omega
    have hwi := hwT i hi
    rw [htA] at hW hp aS ⊢
    have hWc := Lib.hid hW
    obtain ⟨o, ho⟩ : ∃ o, s.tab i = o := ⟨_, rfl⟩
    rw [ho] at hcl hinT hwi
    have HO := Lib.hid ho
    clear ho
    clear hcell hT hwT hW
    go_enter Tryz.func70, Tryz.ntmps70
    go_wp2_with fail
    rw [hWc.out]
    clear hWc
    refine hp.mono ?_
    rintro e w2 ⟨rfl, b2⟩
    have hb2 := below_in b3 b2
    have aR2 := aR.below b2 aR.lt
    have aS2 := aS.below b2 aS.lt
    have s1 : w2.cell? ⟨w.heap.size, 1, none⟩ = some (.slice (some ⟨b, off, none⟩) s.tn s.tcap) := aS2.cell 1
    obtain ⟨o0, o1, o2, o3⟩ := hcl.keep fun j => hb2.cell (p := ⟨b, j, none⟩) hlt
    have hcp := copyT_any o w2 (hinT.below hb2) hwi
    have hneg : decide ((i : Int) < 0) = false := by simp
    unfold Tb.val at hcp
    clear hp hcl hinT aS aS2 b3
    go_wp2_with fail
    refine hcp.mono ?_
    rintro e w3 ⟨o', rfl, hin3, hsim3, b3⟩
    have hb3 := below_in hb2 b3
    have aR3 := aR2.below b3 aR2.lt
    obtain ⟨q0, q1, q2, q3, y0, y1, y2, y3⟩ := aR3.four
    have hfin := fun x y z q => below_set4 (g := w.heap.size + 1) hb3 (by omega) x y z q
    go_wp2_with fail
    refine bodyPost_ret (v := .tuple #[o'.val, .bool true]) (by simp [results, Tryz.results70, go_sem, Tb.val, q0, q1, q2, q3]) rfl ⟨o', by simp, fun i' hi' => ?_, hfin _ _ _ _⟩
    obtain rfl : i = i' := by omega
    refine ⟨hi, ?_, by rw [HO.out]; exact hsim3⟩
    have h1 := aR.lt
    have h2 := b2.size
    have h4 := hb2.size
    refine KeepT.keep (p := fun b => w2.heap.size ≤ b) (w := w3) hin3 (by simp [World.setCell]) (fun b hb _ => ?_) (fun b hb _ => ?_)
    · have hb : w2.heap.size ≤ b := hb
      exact (Below.heap_setCell _ _ _ _ (fun e : b = w.heap.size + 1 => by omega)).trans ((Below.heap_setCell _ _ _ _ (fun e : b = w.heap.size + 1 => by omega)).trans ((Below.heap_setCell _ _ _ _ (fun e : b = w.heap.size + 1 => by omega)).trans (Below.heap_setCell _ _ _ _ (fun e : b = w.heap.size + 1 => by omega))))
    · have hb : w2.heap.size ≤ b := hb
      show w.heap.size ≤ b
      omega

theorem flat_len4 {α : Type} (f : α → List Value) (hf : ∀ a, (f a).length = 4) : ∀ l : List α, (l.flatMap f).length = l.length * 4
  | [] => rfl
  | a :: r => by rw [List.flatMap_cons, List.length_append, flat_len4 f hf r, hf, List.length_cons]; omega
theorem rows_news4 {α : Type} (f : α → List Value) (d : α) (hf : ∀ a, (f a).length = 4) (l : List α) (w : World) (b off : Nat) (h : ∀ j, j < l.length → ∀ i v, (f (l.getD j d))[i]? = some v → w.cell? ⟨b, off + j * 4 + i, none⟩ = some v) :
    ∀ j u, (l.flatMap f)[j]? = some u → w.cell? ((⟨b, off, none⟩ : Addr).add j) = some u := fun j u hu => by
  have hj : j < l.length * 4 := by rw [← flat_len4 f hf]; exact (List.getElem?_eq_some_iff.1 hu).1
  have e : j = j / 4 * 4 + j % 4 := by omega
  have hu' := hu
  rw [e, flat_at f 4 d hf l (j / 4) (by omega) (j % 4) (by omega)] at hu'
  have h1 := h (j / 4) (by omega) (j % 4) u hu'
  have e2 : (⟨b, off, none⟩ : Addr).add j = ⟨b, off + j / 4 * 4 + j % 4, none⟩ := by
    rw [add_plain, Nat.add_assoc, ← e]
  rw [e2]
  exact h1

set_option maxRecDepth 100000 in
set_option maxHeartbeats 800000 in
theorem cloneT_any (A : Option Addr) (n cap : Nat) (l : List Tb) (w : World) (hl : l.length = n) (hn : n ≤ 100000000)
    (hr : 0 < n → ∃ b off, A = some ⟨b, off, none⟩ ∧ ∀ j, j < n → ∀ i v, (Tb.cs (l.getD j default))[i]? = some v → w.cell? ⟨b, off + j * 4 + i, none⟩ = some v) :
    Calls Tryz.prog 38 #[.slice A n cap] w fun e w' => ∃ v, e = .returned v ∧ w'.ownsRow w.heap.size 32 4 v n (l.flatMap Tb.cs) ∧ Below w.heap.size w w' := by
  cases A with
  | none =>
    have h0 : n = 0 := by
      rcases Nat.eq_zero_or_pos n with h | h
      · exact h
      · obtain ⟨_, _, h1, _⟩ := hr h; cases h1
    subst h0
    obtain rfl : l = [] := List.eq_nil_of_length_eq_zero hl
    clear hr
    have hq := fun (w : World) => Lib.run_eql_slice_nil (P := Tryz.prog) w 22 32 none 0 cap 0 0 Tryz.underlying22
    go_enter Tryz.func38, Tryz.ntmps38
    go_wp2_with fail
    go_ret
    exact ⟨_, rfl, World.ownsRow_nil _ _ _ 4, Below.refl _ _⟩
  | some ad =>
    have hnews : ∀ j u, (l.flatMap Tb.cs)[j]? = some u → w.cell? (ad.add j) = some u := fun j u hu => by
      have hpos : 0 < n := by
        rcases Nat.eq_zero_or_pos n with h | h
        · obtain rfl : l = [] := List.eq_nil_of_length_eq_zero (by omega)
          simp at hu
        · exact h
      obtain ⟨b, off, e1, e2⟩ := hr hpos
      injection e1 with e1
      subst e1
      exact rows_news4 Tb.cs default (fun _ => rfl) l w b off (fun j hj i v hv => e2 j (by omega) i v hv) j u hu
    have hmade : (w.alloc (.cells #[] 32)).ownsRow w.heap.size 32 4 (.slice (some ⟨w.heap.size, 0, none⟩) 0 0) 0 [] := World.ownsRow_made w #[] 0 (Nat.le_refl _) (by unfold maxLen; omega) rfl
    have hb := below_box w (.cells #[] 32)
    have hnews' : ∀ j u, (l.flatMap Tb.cs)[j]? = some u → (w.alloc (.cells #[] 32)).cell? (ad.add j) = some u := fun j u hu => by
      have h1 := hnews j u hu
      exact (hb.cell (World.block_lt_of_cell? w _ h1)).trans h1
    clear hr hnews
    have hq := fun (w : World) => Lib.run_eql_slice_nil (P := Tryz.prog) w 22 32 (some ad) n cap 0 0 Tryz.underlying22
    go_enter Tryz.func38, Tryz.ntmps38
    go_wp2_with (at_builtin; refine wp_append_at rfl (.tmp 5) (.tmp 6) 22 rfl 32 4 72 _ Tryz.underlying22 info_table rfl (by omega) hmade ad n cap (l.flatMap Tb.cs) rfl rfl (by rw [flat_len4 _ (fun _ => rfl), hl]) hnews' (one_cells _ _ (fun a u hu => by simp [Tb.cs] at hu; rcases hu with rfl | rfl | rfl | rfl <;> rfl)) (by omega) (by omega) hb.size ?_)
    intro v w2 ho hg
    have HO := Lib.hid ho
    clear ho
    go_wp2_with fail
    go_ret
    refine ⟨_, rfl, ?_, hb.grown hg hb.size (fun k hk => by simp [Value.ownBlock] at hk; omega)⟩
    exact HO.out

set_option maxRecDepth 100000 in
set_option maxHeartbeats 3200000 in
theorem dcopyT_any (t : Tb) (w : World) (ht : InT w t) (hw : wtT t ≤ 1048573) :
    Calls Tryz.prog 39 #[t.val] w fun e w' => ∃ o : Tb, e = .returned o.val ∧ KeepT (fun b => w.heap.size ≤ b) w' o ∧ simT o t ∧ Below w.heap.size w w' := by
  obtain ⟨W1, hW1⟩ : ∃ W1, (w.alloc (.cells #[.string ⟨t.name.toArray⟩, .int .i64 t.owner, .slice t.cA t.cn t.ccap, .slice t.eA t.en t.ecap] 32)).alloc
    (.cells #[.string ⟨#[]⟩, .int .i64 0, .slice none 0 0, .slice none 0 0] 32) = W1 := ⟨_, rfl⟩
  have b1 : Below w.heap.size w W1 := by
    rw [← hW1]
    have b0 := below_box w (.cells #[.string ⟨t.name.toArray⟩, .int .i64 t.owner, .slice t.cA t.cn t.ccap, .slice t.eA t.en t.ecap] 32)
    exact b0.alloc b0.size _
  have aB : At W1 w.heap.size 32 #[.string ⟨t.name.toArray⟩, .int .i64 t.owner, .slice t.cA t.cn t.ccap, .slice t.eA t.en t.ecap] := by
    rw [← hW1]; exact (At.fresh _ _ _).alloc _
  have aR : At W1 (w.heap.size + 1) 32 #[.string ⟨#[]⟩, .int .i64 0, .slice none 0 0, .slice none 0 0] := by
    rw [← hW1]
    have := At.fresh (w.alloc (.cells #[.string ⟨t.name.toArray⟩, .int .i64 t.owner, .slice t.cA t.cn t.ccap, .slice t.eA t.en t.ecap] 32)) 32 #[.string ⟨#[]⟩, .int .i64 0, .slice none 0 0, .slice none 0 0]
    simp only [World.size_alloc] at this
    exact this
  have hz1 : W1.heap.size = w.heap.size + 2 := by rw [← hW1]; simp
  have aX := At.fresh W1 32 #[.string ⟨t.name.toArray⟩, .int .i64 t.owner, .slice t.cA t.cn t.ccap, .slice t.eA t.en t.ecap]
  have bX := below_box W1 (.cells #[.string ⟨t.name.toArray⟩, .int .i64 t.owner, .slice t.cA t.cn t.ccap, .slice t.eA t.en t.ecap] 32)
  obtain ⟨W, hW⟩ : ∃ W, W1.alloc (.cells #[.string ⟨t.name.toArray⟩, .int .i64 t.owner, .slice t.cA t.cn t.ccap, .slice t.eA t.en t.ecap] 32) = W := ⟨_, rfl⟩
  rw [hW] at aX bX
  have b2 := below_in b1 bX
  have hzW : W.heap.size = w.heap.size + 3 := by rw [← hW]; simp [hz1]
  have aBW := aB.below bX aB.lt
  have aRW := aR.below bX aR.lt
  have htW := ht.below b2
  have hin : InS W ⟨0, some ⟨W1.heap.size, 0, none⟩, 1, 1, fun _ => t, none, 0, 0, []⟩ := by
    refine ⟨by show I64 0; unfold I64; decide, by show 1 ≤ maxLen; unfold maxLen; decide, by show 0 ≤ maxLen; unfold maxLen; decide, fun _ => ⟨W1.heap.size, 0, rfl, aX.lt, fun j hj => ?_⟩, ⟨rfl, by simp, fun h => absurd h (by show ¬ 0 < 0; decide)⟩⟩
    obtain rfl : j = 0 := by have : j < 1 := hj; omega
    obtain ⟨c0, c1, c2, c3, -⟩ := aX.four
    exact ⟨⟨c0, c1, c2, c3⟩, htW⟩
  have hF := find2_any ⟨0, some ⟨W1.heap.size, 0, none⟩, 1, 1, fun _ => t, none, 0, 0, []⟩ t.name W hin (by
    show 3 + sumN 1 (fun _ => wtT t) + sumN 0 _ ≤ 1048576
    simp [sumN]; omega)
  have h0 : firstI (fun j => ((fun _ => t : Nat → Tb) j).name) t.name 1 = 0 := by simp [firstI, firstAt]
  simp only [Sc.val] at hF
  have hF2 : Calls Tryz.prog 70 #[.agg #[.int .i64 0, .slice (some ⟨W1.heap.size, 0, none⟩) 1 1, .slice none 0 0], .string ⟨t.name.toArray⟩] W fun e w' => (∃ o : Tb, e = .returned (.tuple #[o.val, .bool true]) ∧ KeepT (fun b => W.heap.size ≤ b) w' o ∧ simT o t) ∧ Below W.heap.size W w' := by
    refine hF.mono ?_
    rintro e w' ⟨o, rfl, h1, h2⟩
    have h3 := h1 0 h0
    exact ⟨⟨o, by rw [h0]; rfl, h3.2.1, h3.2.2⟩, h2⟩
  obtain ⟨c0, c1, c2, c3, -⟩ := aB.four
  obtain ⟨c4, -, -, -, -⟩ := aBW.four
  have hW1c := Lib.hid hW1
  have hWc := Lib.hid hW
  clear h0 hF hin hW hW1 htW ht hw aB aR aBW b1 bX
  rw [hz1] at hF2 aX
  unfold Tb.val at hF2 ⊢
  go_enter Tryz.func39, Tryz.ntmps39
  go_wp2_with fail
  rw [hW1c.out, hWc.out]
  clear hW1c hWc
  refine hF2.mono ?_
  rintro e w3 ⟨⟨o, rfl, hk, hs⟩, b3⟩
  have hb3 := below_in b2 b3
  have aR3 := aRW.below b3 aRW.lt
  have aR4 := aR3.alloc (.cells #[.string ⟨o.name.toArray⟩, .int .i64 o.owner, .slice o.cA o.cn o.ccap, .slice o.eA o.en o.ecap] 32)
  have hb4 := hb3.alloc hb3.size (.cells #[.string ⟨o.name.toArray⟩, .int .i64 o.owner, .slice o.cA o.cn o.ccap, .slice o.eA o.en o.ecap] 32)
  have hz3 := b3.size
  obtain ⟨q0, q1, q2, q3, y0, y1, y2, y3⟩ := aR4.four
  have hfin := fun x y z q => below_set4 (g := w.heap.size + 1) hb4 (by omega) x y z q
  have HK := Lib.hid hk
  have HS := Lib.hid hs
  clear hF2 hk hs b3 b2 hb3 hb4
  go_wp2_with fail
  refine bodyPost_ret (v := o.val) (by simp [results, Tryz.results39, go_sem, Tb.val, q0, q1, q2, q3]) rfl ⟨o, rfl, ?_, HS.out, hfin _ _ _ _⟩
  refine HK.out.keep (by simp [World.setCell]) (fun b hb hl => ?_) (fun b hb _ => ?_)
  · have hb : W.heap.size ≤ b := hb
    exact ((Below.heap_setCell _ _ _ _ (fun e : b = w.heap.size + 1 => by omega)).trans ((Below.heap_setCell _ _ _ _ (fun e : b = w.heap.size + 1 => by omega)).trans ((Below.heap_setCell _ _ _ _ (fun e : b = w.heap.size + 1 => by omega)).trans (Below.heap_setCell _ _ _ _ (fun e : b = w.heap.size + 1 => by omega))))).trans (Below.heap_alloc _ _ _ hl)
  · have hb : W.heap.size ≤ b := hb
    show w.heap.size ≤ b
    omega
end Go.Proofs.YtnhalfdddcjicaaGreat
