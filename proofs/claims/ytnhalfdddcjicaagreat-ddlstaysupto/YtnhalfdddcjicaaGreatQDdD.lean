/- The walk of copySchema. -/
import Derived.Test.YtnhalfdddcjicaaGreatQDdC
namespace Go.Proofs.YtnhalfdddcjicaaGreat
open Go.RowKit

/-- A row of tables of one's own, that keep whatever is written elsewhere. -/
def OwnT (w : World) (B : Nat) (v : Value) (L : List Tb) : Prop := w.ownsRow B 32 4 v L.length (L.flatMap Tb.cs) ∧ ∀ x ∈ L, KeepT (fun b => B ≤ b ∧ v.ownBlock ≠ some b) w x
theorem flat_take4 : ∀ (L : List Tb) (i : Nat), (L.flatMap Tb.cs).take (i * 4) = (L.take i).flatMap Tb.cs
  | [], i => by simp
  | g :: r, 0 => by simp
  | g :: r, i + 1 => by
    rw [List.flatMap_cons, List.take_succ_cons, List.flatMap_cons, ← flat_take4 r i, show (i + 1) * 4 = g.cs.length + i * 4 by simp [Tb.cs]; omega, List.take_length_add_append]
theorem flat_drop4 : ∀ (L : List Tb) (i : Nat), (L.flatMap Tb.cs).drop (i * 4) = (L.drop i).flatMap Tb.cs
  | [], i => by simp
  | g :: r, 0 => by simp
  | g :: r, i + 1 => by
    rw [List.flatMap_cons, List.drop_succ_cons, ← flat_drop4 r i, show (i + 1) * 4 = g.cs.length + i * 4 by simp [Tb.cs]; omega, List.drop_length_add_append]
theorem flat_lay4 {L : List Tb} {l : List Value} {k : Nat} (o : Tb) (hk : k < L.length) (h : l.take (L.length * 4) = L.flatMap Tb.cs) : (layL (k * 4) l o.cs).take (L.length * 4) = (L.set k o).flatMap Tb.cs := by
  have hl : L.length * 4 ≤ l.length := by
    have := congrArg List.length h
    rw [List.length_take, flat_len4 _ (fun _ => rfl)] at this
    omega
  have e1 : l.take (k * 4) = (L.take k).flatMap Tb.cs := by rw [← flat_take4, ← h, List.take_take, Nat.min_eq_left (by omega)]
  have e2 : (l.drop (k * 4 + o.cs.length)).take (L.length * 4 - (k * 4 + o.cs.length)) = (L.drop (k + 1)).flatMap Tb.cs := by
    rw [← flat_drop4, ← h, show (k + 1) * 4 = k * 4 + o.cs.length by simp [Tb.cs]; omega, List.drop_take]
  have e3 : (l.take (k * 4) ++ o.cs).length = k * 4 + o.cs.length := by simp; omega
  have hc : o.cs.length = 4 := rfl
  unfold layL
  rw [List.take_append, e3, e2, List.take_of_length_le (by rw [e3, hc]; omega), e1, List.set_eq_take_append_cons_drop, if_pos hk, List.flatMap_append, List.flatMap_cons, List.append_assoc]
theorem sets4 (w : World) (g o : Nat) (t : Tb) : w.setCells g o t.cs = (((w.setCell ⟨g, o, none⟩ (.string ⟨t.name.toArray⟩)).setCell ⟨g, o + 1, none⟩ (.int .i64 t.owner)).setCell ⟨g, o + 2, none⟩ (.slice t.cA t.cn t.ccap)).setCell ⟨g, o + 3, none⟩ (.slice t.eA t.en t.ecap) := rfl
theorem At.flat {w : World} {g : Nat} {t : TypeId} {l : List Value} {L : List Tb} (h : At w g t l.toArray) (ht : l.take (L.length * 4) = L.flatMap Tb.cs) {k : Nat} (hk : k < L.length) : CellsT w g (k * 4) (L.getD k default) := by
  have hc : ∀ i, i < 4 → w.cell? ⟨g, k * 4 + i, none⟩ = (Tb.cs (L.getD k default))[i]? := fun i hi => by
    rw [At.cell h, ← flat_at Tb.cs 4 default (fun _ => rfl) L k hk i hi, ← ht, List.getElem?_take, if_pos (by omega)]
    simp
  exact ⟨hc 0 (by omega), hc 1 (by omega), hc 2 (by omega), hc 3 (by omega)⟩
theorem own_at4 {w : World} {base n : Nat} {v : Value} {L : List Tb} (h : w.ownsRow base 32 4 v n (L.flatMap Tb.cs)) (hn : 0 < n) : ∃ g c l, v = .slice (some ⟨g, 0, none⟩) n c ∧ base ≤ g ∧ At w g 32 (List.toArray l) ∧ n ≤ c ∧ c ≤ maxLen ∧ l.length = c * 4 ∧ l.take (n * 4) = L.flatMap Tb.cs := by
  rcases h.2 with ⟨_, rfl⟩ | ⟨g, cap, cur, rfl, hbg, hg, hnc, hcm, hcs, htk⟩
  · omega
  · exact ⟨g, cap, cur.toList, rfl, hbg, by rw [show cur.toList.toArray = cur by simp]; exact hg, hnc, hcm, by simpa using hcs, htk⟩
theorem own_mk4 {w : World} {base n g c : Nat} {l : List Value} {L : List Tb} (hl : L.length = n) (hb : base ≤ g) (hA : At w g 32 l.toArray) (hnc : n ≤ c) (hcm : c ≤ maxLen) (hll : l.length = c * 4) (ht : l.take (n * 4) = L.flatMap Tb.cs) : w.ownsRow base 32 4 (.slice (some ⟨g, 0, none⟩) n c) n (L.flatMap Tb.cs) :=
  ⟨by rw [flat_len4 _ (fun _ => rfl), hl], .inr ⟨g, c, l.toArray, rfl, hb, hA, hnc, hcm, by simpa using hll, by rw [List.toList_toArray, ht]⟩⟩
theorem rowT_cells {w : World} {A : Option Addr} {n : Nat} {tab : Nat → Tb} (hr : RowT w A n tab) : 0 < n → ∃ b off, A = some ⟨b, off, none⟩ ∧ ∀ j, j < n → ∀ i v, (Tb.cs (((List.range n).map tab).getD j default))[i]? = some v → w.cell? ⟨b, off + j * 4 + i, none⟩ = some v := fun hn => by
  obtain ⟨b, off, e1, e2, e3⟩ := hr hn
  refine ⟨b, off, e1, fun j hj i v hv => ?_⟩
  have eg : ((List.range n).map tab).getD j default = tab j := by simp [hj]
  rw [eg] at hv
  obtain ⟨⟨c0, c1, c2, c3⟩, -⟩ := e3 j hj
  match i, hv with
  | 0, hv => injection hv with hv; subst hv; exact c0
  | 1, hv => injection hv with hv; subst hv; exact c1
  | 2, hv => injection hv with hv; subst hv; exact c2
  | 3, hv => injection hv with hv; subst hv; exact c3
  | i + 4, hv => simp [Tb.cs] at hv
def SimL (L : List Tb) (tab : Nat → Tb) (n : Nat) : Prop := L.length = n ∧ ∀ j, j < n → simT (L.getD j default) (tab j)
def CopyE (s : Sc) (B : Nat) (e : Ending) (w' : World) : Prop := ∃ tv L gv, e = .returned (.agg #[.int .i64 s.ver, tv, gv]) ∧ OwnT w' B tv L ∧ SimL L s.tab s.tn ∧ w'.ownsRow B 50 3 gv s.grants.length (s.grants.flatMap Gr.cs)
theorem own_move {w w' : World} {base base' : Nat} {e : TypeId} {size n : Nat} {v : Value} {xs : List Value} (h : w.ownsRow base e size v n xs) (hk : ∀ b, base ≤ b → b < w.heap.size → w'.heap[b]? = w.heap[b]?) (hb : base' ≤ base) : w'.ownsRow base' e size v n xs := by
  refine ⟨h.1, ?_⟩
  rcases h.2 with k | ⟨g, cap, cur, rfl, hg, hh, k⟩
  · exact .inl k
  · exact .inr ⟨g, cap, cur, rfl, Nat.le_trans hb hg, (hk g hg (Array.getElem?_eq_some_iff.1 hh).1).trans hh, k⟩

/-- The round's state: the first k tables are copies. -/
structure CopyL (w : World) (B g c : Nat) (tab : Nat → Tb) (n k : Nat) (L : List Tb) (l : List Value) : Prop where
  len : L.length = n
  hA : At w g 32 l.toArray
  hl : l.length = c * 4
  ht : l.take (L.length * 4) = L.flatMap Tb.cs
  new : ∀ j, j < k → KeepT (fun b => B ≤ b ∧ b ≠ g) w (L.getD j default) ∧ simT (L.getD j default) (tab j)
  old : ∀ j, k ≤ j → j < n → L.getD j default = tab j
theorem CopyL.below {w w' : World} {B g c : Nat} {tab : Nat → Tb} {n k : Nat} {L : List Tb} {l : List Value} (h : CopyL w B g c tab n k L l) (hb : Below w.heap.size w w') : CopyL w' B g c tab n k L l :=
  ⟨h.len, h.hA.below hb h.hA.lt, h.hl, h.ht, fun j hj => ⟨(h.new j hj).1.below hb, (h.new j hj).2⟩, h.old⟩
theorem CopyL.drew {w : World} {B g c : Nat} {tab : Nat → Tb} {n k : Nat} {L : List Tb} {l : List Value} (h : CopyL w B g c tab n k L l) : CopyL w.drew B g c tab n k L l :=
  ⟨h.len, h.hA, h.hl, h.ht, fun j hj => ⟨(h.new j hj).1, (h.new j hj).2⟩, h.old⟩
theorem CopyL.cells {w : World} {B g c : Nat} {tab : Nat → Tb} {n k : Nat} {L : List Tb} {l : List Value} (h : CopyL w B g c tab n k L l) (hk : k < n) : CellsT w g (k * 4) (tab k) := by
  have := At.flat h.hA h.ht (k := k) (by rw [h.len]; exact hk)
  rw [h.old k (Nat.le_refl _) hk] at this
  exact this
theorem At.setsT {w : World} {b : Nat} {t : TypeId} {cs : Array Value} (h : At w b t cs) {g o : Nat} (hne : b ≠ g) (x : Tb) : At (w.setCells g o x.cs) b t cs := by
  rw [sets4]
  exact (((h.elsewhere (p := ⟨g, o, none⟩) hne _).elsewhere (p := ⟨g, o + 1, none⟩) hne _).elsewhere (p := ⟨g, o + 2, none⟩) hne _).elsewhere (p := ⟨g, o + 3, none⟩) hne _
theorem CopyL.put {w : World} {B g c : Nat} {tab : Nat → Tb} {n k : Nat} {L : List Tb} {l : List Value} (h : CopyL w B g c tab n k L l) (hk : k < n) {o : Tb} (hK : KeepT (fun b => B ≤ b ∧ b ≠ g) w o) (hs : simT o (tab k)) (hc : n ≤ c) :
    CopyL (w.setCells g (k * 4) o.cs) B g c tab n (k + 1) (L.set k o) (layL (k * 4) l o.cs) := by
  have hcs : o.cs.length = 4 := rfl
  have hl := h.hl
  have hlen := h.len
  have hle : k * 4 + o.cs.length ≤ l.length := by rw [hcs]; omega
  have hsz : w.heap.size ≤ (w.setCells g (k * 4) o.cs).heap.size := (below_sets (B := 0) (Nat.zero_le g) o.cs (k * 4) w (Below.refl _ _)).size
  have hkp : ∀ x, KeepT (fun b => B ≤ b ∧ b ≠ g) w x → KeepT (fun b => B ≤ b ∧ b ≠ g) (w.setCells g (k * 4) o.cs) x := fun x hx => hx.keep hsz (fun b hb _ => by
    have hb2 : b ≠ g := hb.2
    rw [sets4]
    exact (Below.heap_setCell _ _ _ _ hb2).trans ((Below.heap_setCell _ _ _ _ hb2).trans ((Below.heap_setCell _ _ _ _ hb2).trans (Below.heap_setCell _ _ _ _ hb2)))) (fun _ hb _ => hb)
  have hget : ∀ j, (L.set k o).getD j default = if j = k then o else L.getD j default := fun j => by
    simp only [List.getD_eq_getElem?_getD, List.getElem?_set]
    by_cases e : j = k
    · subst e; rw [if_pos rfl, if_pos rfl, if_pos (by omega)]; rfl
    · rw [if_neg (fun h => e h.symm), if_neg e]
  refine ⟨by rw [List.length_set]; exact hlen, At.sets o.cs (k * 4) l w h.hA hle, by rw [layL_len hle]; exact hl, ?_, fun j hj => ?_, fun j hj hjn => ?_⟩
  · rw [List.length_set]
    exact flat_lay4 o (by omega) h.ht
  · rw [hget]
    by_cases e : j = k
    · rw [if_pos e, e]; exact ⟨hkp o hK, hs⟩
    · rw [if_neg e]; exact ⟨hkp _ (h.new j (by omega)).1, (h.new j (by omega)).2⟩
  · rw [hget, if_neg (by omega)]
    exact h.old j (by omega) hjn

theorem CopyL.fin {w w' : World} {B B' g c : Nat} {tab : Nat → Tb} {n : Nat} {L : List Tb} {l : List Value} (h : CopyL w B g c tab n n L l) (hb : B' ≤ B) (hg : B ≤ g) (hnc : n ≤ c) (hcm : c ≤ maxLen) (hs : w.heap.size ≤ w'.heap.size) (hk : ∀ b, B ≤ b → b < w.heap.size → w'.heap[b]? = w.heap[b]?) :
    OwnT w' B' (.slice (some ⟨g, 0, none⟩) n c) L ∧ SimL L tab n := by
  have hlen := h.len
  have ht := h.ht
  rw [hlen] at ht
  refine ⟨⟨?_, fun x hx => ?_⟩, hlen, fun j hj => (h.new j hj).2⟩
  · rw [hlen]
    exact own_move (own_mk4 hlen hg h.hA hnc hcm h.hl ht) hk hb
  · obtain ⟨j, hj, rfl⟩ := List.getElem_of_mem hx
    have h1 := (h.new j (by omega)).1
    rw [List.getD_eq_getElem?_getD, List.getElem?_eq_getElem hj] at h1
    exact KeepT.keep (p := fun b => B ≤ b ∧ b ≠ g) h1 hs (fun b hb _ => hk b hb.1 ‹_›) (fun b hb _ => ⟨Nat.le_trans ‹_› hb.1, fun e => hb.2 (by simpa [Value.ownBlock] using e.symm)⟩)

set_option maxRecDepth 100000 in
set_option maxHeartbeats 3200000 in
theorem copyS_any (s : Sc) (w : World) (hs : InS w s) (hw : wtS s ≤ 1048576) :
    Calls Tryz.prog 22 #[s.val] w fun e w' => CopyE s w.heap.size e w' ∧ Below w.heap.size w w' := by
  have HR : Hid (∀ tv L gv w', OwnT w' w.heap.size tv L → SimL L s.tab s.tn → w'.ownsRow w.heap.size 50 3 gv s.grants.length (s.grants.flatMap Gr.cs) → CopyE s w.heap.size (.returned (.agg #[.int .i64 s.ver, tv, gv])) w') := by
    show ∀ _, _
    exact fun tv L gv w' h1 h2 h3 => ⟨tv, L, gv, rfl, h1, h2, h3⟩
  obtain ⟨W, hW⟩ : ∃ W, (w.alloc (.cells #[.int .i64 s.ver, .slice s.tA s.tn s.tcap, .slice s.gA s.gn s.gcap] 25)).alloc
    (.cells #[.int .i64 0, .slice none 0 0, .slice none 0 0] 25) = W := ⟨_, rfl⟩
  have b3 : Below w.heap.size w W := by
    rw [← hW]
    have b0 := below_box w (.cells #[.int .i64 s.ver, .slice s.tA s.tn s.tcap, .slice s.gA s.gn s.gcap] 25)
    exact b0.alloc b0.size _
  have aS : At W w.heap.size 25 #[.int .i64 s.ver, .slice s.tA s.tn s.tcap, .slice s.gA s.gn s.gcap] := by
    rw [← hW]; exact (At.fresh _ _ _).alloc _
  have aR : At W (w.heap.size + 1) 25 #[.int .i64 0, .slice none 0 0, .slice none 0 0] := by
    rw [← hW]
    have := At.fresh (w.alloc (.cells #[.int .i64 s.ver, .slice s.tA s.tn s.tcap, .slice s.gA s.gn s.gcap] 25)) 25 #[.int .i64 0, .slice none 0 0, .slice none 0 0]
    simp only [World.size_alloc] at this
    exact this
  have hsz : W.heap.size = w.heap.size + 1 + 1 := by rw [← hW]; simp
  have hWc := Lib.hid hW
  clear hW
  have hn1 := len_sum (n := s.tn) (f := fun j => wtT (s.tab j)) fun i _ => by unfold wtT; omega
  have hn2 := len_sum (n := s.gn) (f := fun j => wtG (s.grants.getD j default)) fun i _ => by unfold wtG; omega
  have hwT : ∀ j, j < s.tn → wtT (s.tab j) ≤ 1048573 := fun j hj => by
    have : wtT (s.tab j) ≤ sumN s.tn fun j => wtT (s.tab j) := sumN_at (fun j => wtT (s.tab j)) hj
    unfold wtS at hw
    omega
  have htn : s.tn ≤ 1048576 := by unfold wtS at hw; omega
  have hgn : s.gn ≤ 1048576 := by unfold wtS at hw; omega
  have hCT := cloneT_any s.tA s.tn s.tcap ((List.range s.tn).map s.tab) W (by simp) (by omega) (rowT_cells (hs.tabs.below b3))
  have hCG := fun w' (b : Below w.heap.size w w') => cloneG_any s.gA s.gn s.gcap s.grants w' hs.grants.1 (by omega) (rowG_cells (hs.grants.below b))
  have hgl := hs.grants.1
  have hT := hs.tabs
  clear hs hw hn1 hn2
  unfold Sc.val
  obtain ⟨ver, tA, n, tcap, tab, gA, gn, gcap, gs⟩ := s
  simp only at *
  go_enter Tryz.func22, Tryz.ntmps22
  go_wp2_with fail
  rw [hWc.out]
  clear hWc
  refine hCT.mono ?_
  rintro en w2 ⟨v, rfl, hown, b2⟩
  have hb2 := below_in b3 b2
  have aS2 := aS.below b2 aS.lt
  have aR2 := aR.below b2 aR.lt
  have hz2 := b2.size
  clear hCT
  by_cases h0 : n = 0
  · subst h0
    obtain ⟨A0, c0, rfl, -⟩ := own_cells Tb.cs default (fun _ => rfl) _ hown (by simp)
    have aS3 := aS2.put 1 (.slice A0 0 c0)
    have aR3 := aR2.elsewhere (p := ⟨w.heap.size, 1, none⟩) (by simp) (.slice A0 0 c0)
    have hb3 := hb2.setCell (p := ⟨w.heap.size, 1, none⟩) (Nat.le_refl _) (.slice A0 0 c0)
    have hs3 : (w2.setCell ⟨w.heap.size, 1, none⟩ (.slice A0 0 c0)).heap.size = w2.heap.size := by simp [World.setCell]
    have HOWN : Hid ((w2.setCell ⟨w.heap.size, 1, none⟩ (.slice A0 0 c0)).ownsRow W.heap.size 32 4 (.slice A0 0 c0) 0 []) := own_move (by simpa using hown) (fun b hb _ => Below.heap_setCell _ _ _ _ (fun e : b = w.heap.size => by omega)) (Nat.le_refl _)
    obtain ⟨z0, z1, z2⟩ := aS2.tri0
    have zf := aS2.unfrozen 1
    clear hown aS2 aR2 aS aR hT hwT
    go_wp2_with fail
    generalize w2.setCell ⟨w.heap.size, 1, none⟩ (.slice A0 0 c0) = W3 at *
    have aS4 : At W3 w.heap.size 25 #[.int .i64 ver, .slice A0 0 c0, .slice gA gn gcap] := aS3
    obtain ⟨d0, d1, d2⟩ := aS4.tri0
    go_wp2_with fail
    go_loopw [12] (fun i wr => i = .int .i64 0 ∧ wr = W3) (fun _ _ => 0)
    case atStart => exact ⟨rfl, rfl⟩
    case round =>
    obtain ⟨rfl, rfl⟩ := hrel
    go_wp2_with fail
    refine (hCG _ hb3).mono ?_
    rintro en w5 ⟨gv, rfl, hgo, b5⟩
    have hb5 := below_in hb3 b5
    obtain ⟨A5, c5, rfl, -⟩ := own_cells Gr.cs default (fun _ => rfl) gs hgo hgl
    have aS5 := aS4.below b5 (At.lt aS4)
    have aR5 := aR3.below b5 (At.lt aR3)
    have aS6 := aS5.put 2 (.slice A5 gn c5)
    have aR6 := aR5.elsewhere (p := ⟨w.heap.size, 2, none⟩) (by simp) (.slice A5 gn c5)
    have hb6 := hb5.setCell (p := ⟨w.heap.size, 2, none⟩) (Nat.le_refl _) (.slice A5 gn c5)
    have hs6 : (w5.setCell ⟨w.heap.size, 2, none⟩ (.slice A5 gn c5)).heap.size = w5.heap.size := by simp [World.setCell]
    obtain ⟨s0, s1, s2⟩ := (show At w5 w.heap.size 25 #[.int .i64 ver, .slice A0 0 c0, .slice gA gn gcap] from aS5).tri0
    have sz2 := aS5.unfrozen 2
    obtain ⟨t0, t1, t2⟩ := (show At (w5.setCell ⟨w.heap.size, 2, none⟩ (.slice A5 gn c5)) w.heap.size 25 #[.int .i64 ver, .slice A0 0 c0, .slice A5 gn c5] from aS6).tri0
    obtain ⟨q0, q1, q2⟩ := (show At (w5.setCell ⟨w.heap.size, 2, none⟩ (.slice A5 gn c5)) (w.heap.size + 1) 25 #[.int .i64 0, .slice none 0 0, .slice none 0 0] from aR6).tri0
    have y0 := aR6.unfrozen 0
    have y1 := aR6.unfrozen 1
    have y2 := aR6.unfrozen 2
    have hz5 := b5.size
    have hfin := fun x y z => below_set3 (g := w.heap.size + 1) hb6 (by omega) x y z
    have HKF : Hid (∀ x y z b, W.heap.size ≤ b → ((((w5.setCell ⟨w.heap.size, 2, none⟩ (.slice A5 gn c5)).setCell ⟨w.heap.size + 1, 0, none⟩ x).setCell ⟨w.heap.size + 1, 1, none⟩ y).setCell ⟨w.heap.size + 1, 2, none⟩ z).heap[b]? = w5.heap[b]?) := by
      show ∀ _, _
      intro x y z b hb
      exact (Below.heap_setCell _ _ _ _ (fun e : b = w.heap.size + 1 => by omega)).trans ((Below.heap_setCell _ _ _ _ (fun e : b = w.heap.size + 1 => by omega)).trans ((Below.heap_setCell _ _ _ _ (fun e : b = w.heap.size + 1 => by omega)).trans (Below.heap_setCell _ _ _ _ (fun e : b = w.heap.size => by omega))))
    have HGO := Lib.hid hgo
    clear hgo hCG aS5 aR5 aS6 aR6 aS4 aR3 hb6
    go_wp2_with fail
    refine bodyPost_ret (v := .agg #[.int .i64 ver, .slice A0 0 c0, .slice A5 gn c5]) (by simp [results, Tryz.results22, go_sem, q0, q1, q2]) rfl ⟨HR.out (.slice A0 0 c0) [] (.slice A5 gn c5) _ ⟨?_, fun x h => by simp at h⟩ ⟨rfl, fun j h => absurd h (by omega)⟩ ?_, hfin _ _ _⟩
    · exact own_move HOWN.out (fun b hb hl => (HKF.out _ _ _ b (by omega)).trans (b5.block b (by omega))) (by omega)
    rw [hgl]
    exact own_move HGO.out (fun b hb hl => HKF.out _ _ _ b (by omega)) (by omega)
  obtain ⟨g, c, l, rfl, hg0, hA, hnc, hcm, hll, hlt⟩ := own_at4 hown (by omega)
  have hneg : w.heap.size ≠ g := by omega
  have aS3 := aS2.put 1 (.slice (some ⟨g, 0, none⟩) n c)
  have aR3 := aR2.elsewhere (p := ⟨w.heap.size, 1, none⟩) (by simp) (.slice (some ⟨g, 0, none⟩) n c)
  have hb3 := hb2.setCell (p := ⟨w.heap.size, 1, none⟩) (Nat.le_refl _) (.slice (some ⟨g, 0, none⟩) n c)
  have hs3 : (w2.setCell ⟨w.heap.size, 1, none⟩ (.slice (some ⟨g, 0, none⟩) n c)).heap.size = w2.heap.size := by simp [World.setCell]
  have hA3 := hA.elsewhere (p := ⟨w.heap.size, 1, none⟩) (fun e => hneg e.symm) (.slice (some ⟨g, 0, none⟩) n c)
  obtain ⟨z0, z1, z2⟩ := aS2.tri0
  have zf := aS2.unfrozen 1
  clear hown aS2 aR2 aS aR hA
  go_wp2_with fail
  generalize w2.setCell ⟨w.heap.size, 1, none⟩ (.slice (some ⟨g, 0, none⟩) n c) = W3 at *
  have aS4 : At W3 w.heap.size 25 #[.int .i64 ver, .slice (some ⟨g, 0, none⟩) n c, .slice gA gn gcap] := aS3
  have hC0 : CopyL W3 W.heap.size g c tab n 0 ((List.range n).map tab) l := ⟨by simp, hA3, hll, by simpa using hlt, fun j hj => absurd hj (by omega), fun j _ hj => by simp [hj]⟩
  obtain ⟨d0, d1, d2⟩ := aS4.tri0
  clear aS3 hA3 hlt
  go_wp2_with fail
  go_loopw [12] (fun i wr => ∃ (k : Nat) (L : List Tb) (l : List Value), k ≤ n ∧ i = .int .i64 k ∧ CopyL wr W.heap.size g c tab n k L l ∧ At wr w.heap.size 25 #[.int .i64 ver, .slice (some ⟨g, 0, none⟩) n c, .slice gA gn gcap] ∧
    At wr (w.heap.size + 1) 25 #[.int .i64 0, .slice none 0 0, .slice none 0 0] ∧ Below w.heap.size w wr ∧ W.heap.size ≤ wr.heap.size) (fun i _ => n - (intOf i).toNat)
  case atStart => exact ⟨0, _, l, by omega, rfl, hC0, aS4, aR3, hb3, by omega⟩
  case round =>
    clear hC0 aS4 aR3 hb3 d0 d1 d2
    obtain ⟨k, L, l, hk, rfl, hC, aSr, aRr, hbr, hzr⟩ := hrel
    by_cases hkn : k < n
    · have hki : (k : Int) < (n : Int) := by omega
      obtain ⟨b, off, -, hbl, hcell⟩ := hT (by omega)
      have hin := (hcell k hkn).2.below hbr
      have hwk := hwT k hkn
      have hcl := At.flat hC.hA hC.ht (k := k) (by rw [hC.len]; exact hkn)
      rw [hC.old k (Nat.le_refl _) hkn] at hcl
      have hPut := Lib.hid (fun (w' : World) (h : CopyL w' W.heap.size g c tab n k L l) (o : Tb) (hK : KeepT (fun b => W.heap.size ≤ b ∧ b ≠ g) w' o) (hs : simT o (tab k)) => h.put hkn hK hs hnc)
      clear hT hcell
      generalize tab k = t at *
      obtain ⟨c0, c1, c2, c3⟩ := hcl
      have hgl2 := hC.hA.lt
      have hgf := fun i => hC.hA.unfrozen i
      have hll2 := hC.hl
      have aT := At.fresh wr 32 #[.string ⟨t.name.toArray⟩, .int .i64 t.owner, .slice t.cA t.cn t.ccap, .slice t.eA t.en t.ecap]
      have hbx := below_box wr (.cells #[.string ⟨t.name.toArray⟩, .int .i64 t.owner, .slice t.cA t.cn t.ccap, .slice t.eA t.en t.ecap] 32)
      have hb4 := below_in hbr hbx
      have hC4 := hC.below hbx
      have aS4 := aSr.below hbx aSr.lt
      have aR4 := aRr.below hbx aRr.lt
      have hcp := fun w' (b : Below wr.heap.size wr w') => dcopyT_any t w' (hin.below b) hwk
      unfold Tb.val at hcp
      have hzx : (wr.alloc (.cells #[.string ⟨t.name.toArray⟩, .int .i64 t.owner, .slice t.cA t.cn t.ccap, .slice t.eA t.en t.ecap] 32)).heap.size = wr.heap.size + 1 := by simp
      clear hC aSr aRr hbr
      go_wp2_with fail
      generalize wr.alloc (.cells #[.string ⟨t.name.toArray⟩, .int .i64 t.owner, .slice t.cA t.cn t.ccap, .slice t.eA t.en t.ecap] 32) = W4 at *
      refine wp_region_held_drew (S := fun w' => At w' w.heap.size 25 #[.int .i64 ver, .slice (some ⟨g, 0, none⟩) n c, .slice gA gn gcap] ∧ At w' wr.heap.size 32 #[.string ⟨t.name.toArray⟩, .int .i64 t.owner, .slice t.cA t.cn t.ccap, .slice t.eA t.en t.ecap]) (by kernel_rfl) (⟨aS4, aT⟩) (fun hS => ?_)
      refine take_at (i := 0) (v := ?_) rfl rfl (by kernel_rfl) (by kernel_rfl) (by kernel_rfl) (fun _ _ _ h => h) (by rfl) hS ?_ ?_
      rotate_left
      · intro w' hw
        obtain ⟨hs1, hs2⟩ := hw
        obtain ⟨e0, e1, e2⟩ := hs1.tri0
        obtain ⟨f0, f1, f2, f3, -⟩ := hs2.four
        go_simp
        try with_reducible rfl
      try simp only [List.setIfInBounds_toArray, List.set_cons_zero, List.set_cons_succ]
      refine take_at (i := 1) (v := ?_) rfl rfl (by kernel_rfl) (by kernel_rfl) (by kernel_rfl) (fun _ _ _ h => h) (by rfl) hS ?_ ?_
      rotate_left
      · intro w' hw
        obtain ⟨hs1, hs2⟩ := hw
        obtain ⟨e0, e1, e2⟩ := hs1.tri0
        obtain ⟨f0, f1, f2, f3, -⟩ := hs2.four
        go_simp
        try with_reducible rfl
      try simp only [List.setIfInBounds_toArray, List.set_cons_zero, List.set_cons_succ]
      refine take_at (i := 2) (v := ?_) rfl rfl (by kernel_rfl) (by kernel_rfl) (by kernel_rfl) (fun _ _ _ h => h) (by rfl) hS ?_ ?_
      rotate_left
      · intro w' hw
        obtain ⟨hs1, hs2⟩ := hw
        obtain ⟨e0, e1, e2⟩ := hs1.tri0
        obtain ⟨f0, f1, f2, f3, -⟩ := hs2.four
        go_simp
        try with_reducible rfl
      try simp only [List.setIfInBounds_toArray, List.set_cons_zero, List.set_cons_succ]
      refine take_at (i := 3) (v := ?_) rfl rfl (by kernel_rfl) (by kernel_rfl) (by kernel_rfl) (fun _ _ _ h => h) (by rfl) hS ?_ ?_
      rotate_left
      · intro w' hw
        obtain ⟨hs1, hs2⟩ := hw
        obtain ⟨e0, e1, e2⟩ := hs1.tri0
        obtain ⟨f0, f1, f2, f3, -⟩ := hs2.four
        go_simp
        try with_reducible rfl
      try simp only [List.setIfInBounds_toArray, List.set_cons_zero, List.set_cons_succ]
      refine only_at (i := 4) rfl (by kernel_rfl) (by rfl) (fun K hK => ?_)
      go_simp
      refine (hcp W4.drew (hbx.drew)).mono ?_
      rintro e w5 ⟨o, rfl, hKo, hso, b5⟩
      clear hS
      have hb5 := below_in hb4.drew b5
      have aS5 := At.below (w := W4.drew) aS4 b5 aS4.lt
      have aT5 := At.below (w := W4.drew) aT b5 aT.lt
      have aR5 := At.below (w := W4.drew) aR4 b5 aR4.lt
      have hC5 := CopyL.below (w := W4.drew) hC4.drew b5
      have hC6 := hPut.out _ hC5 o (hKo.keep (Nat.le_refl _) (fun _ _ _ => rfl) (fun b hb _ => ⟨by have hb : W4.heap.size ≤ b := hb; omega, by have hb : W4.heap.size ≤ b := hb; omega⟩)) hso
      have hz5 := b5.size
      obtain ⟨h0, h1, h2, h3⟩ := hC5.cells hkn
      have hgf5 := fun i => hC5.hA.unfrozen i
      have aS6 := At.setsT aS5 (g := g) (o := k * 4) hneg o
      have aT6 := At.setsT aT5 (g := g) (o := k * 4) (show wr.heap.size ≠ g by omega) o
      have aR6 := At.setsT aR5 (g := g) (o := k * 4) (show w.heap.size + 1 ≠ g by omega) o
      have hb6 := below_sets (B := w.heap.size) (g := g) (by omega) o.cs (k * 4) _ hb5
      rw [sets4] at aS6 aT6 aR6 hC6 hb6
      go_simp
      refine hK.out _ _ (⟨aS5, aT5⟩) (fun hS => ?_)
      clear hK K
      try simp only [Act.put, List.setIfInBounds_toArray, List.set_cons_zero, List.set_cons_succ]
      refine only_at (i := 5) rfl (by kernel_rfl) (by rfl) (fun K hK => ?_)
      go_simp
      refine hK.out _ _ hS (fun hS => ?_)
      clear hK K
      try simp only [Act.put, List.setIfInBounds_toArray, List.set_cons_zero, List.set_cons_succ]
      refine only_at (i := 6) rfl (by kernel_rfl) (by rfl) (fun K hK => ?_)
      go_simp
      refine hK.out _ _ ⟨aS6, aT6⟩ (fun hS => ?_)
      clear hK K
      try simp only [Act.put, List.setIfInBounds_toArray, List.set_cons_zero, List.set_cons_succ]
      refine wpAnyH_done (by kernel_rfl) ?_ _
      clear hS
      have hz6 : W.heap.size ≤ ((((w5.setCell ⟨g, k * 4, none⟩ (.string ⟨o.name.toArray⟩)).setCell ⟨g, k * 4 + 1, none⟩ (.int .i64 o.owner)).setCell ⟨g, k * 4 + 2, none⟩ (.slice o.cA o.cn o.ccap)).setCell ⟨g, k * 4 + 3, none⟩ (.slice o.eA o.en o.ecap)).heap.size := by
        have hz7 : (((((w5.setCell ⟨g, k * 4, none⟩ (.string ⟨o.name.toArray⟩)).setCell ⟨g, k * 4 + 1, none⟩ (.int .i64 o.owner)).setCell ⟨g, k * 4 + 2, none⟩ (.slice o.cA o.cn o.ccap)).setCell ⟨g, k * 4 + 3, none⟩ (.slice o.eA o.en o.ecap))).heap.size = w5.heap.size := by simp [World.setCell]
        have hz8 : W4.drew.heap.size = W4.heap.size := rfl
        omega
      go_wp2_with fail
      exact ⟨⟨k + 1, _, _, by omega, by go_num, hC6, aS6, aR6, hb6, hz6⟩, by simp [intOf]; omega⟩
    · obtain rfl : k = n := by omega
      obtain ⟨d0, d1, d2⟩ := aSr.tri0
      clear hT hwT
      go_wp2_with fail
      refine (hCG _ hbr).mono ?_
      rintro en w5 ⟨gv, rfl, hgo, b5⟩
      have hb5 := below_in hbr b5
      obtain ⟨A5, c5, rfl, -⟩ := own_cells Gr.cs default (fun _ => rfl) gs hgo hgl
      have aS5 := aSr.below b5 (At.lt aSr)
      have aR5 := aRr.below b5 (At.lt aRr)
      have aS6 := aS5.put 2 (.slice A5 gn c5)
      have aR6 := aR5.elsewhere (p := ⟨w.heap.size, 2, none⟩) (by simp) (.slice A5 gn c5)
      have hb6 := hb5.setCell (p := ⟨w.heap.size, 2, none⟩) (Nat.le_refl _) (.slice A5 gn c5)
      have hs6 : (w5.setCell ⟨w.heap.size, 2, none⟩ (.slice A5 gn c5)).heap.size = w5.heap.size := by simp [World.setCell]
      obtain ⟨s0, s1, s2⟩ := (show At w5 w.heap.size 25 #[.int .i64 ver, .slice (some ⟨g, 0, none⟩) k c, .slice gA gn gcap] from aS5).tri0
      have sz2 := aS5.unfrozen 2
      obtain ⟨t0, t1, t2⟩ := (show At (w5.setCell ⟨w.heap.size, 2, none⟩ (.slice A5 gn c5)) w.heap.size 25 #[.int .i64 ver, .slice (some ⟨g, 0, none⟩) k c, .slice A5 gn c5] from aS6).tri0
      obtain ⟨q0, q1, q2⟩ := (show At (w5.setCell ⟨w.heap.size, 2, none⟩ (.slice A5 gn c5)) (w.heap.size + 1) 25 #[.int .i64 0, .slice none 0 0, .slice none 0 0] from aR6).tri0
      have y0 := aR6.unfrozen 0
      have y1 := aR6.unfrozen 1
      have y2 := aR6.unfrozen 2
      have hz5 := b5.size
      have hfin := fun x y z => below_set3 (g := w.heap.size + 1) hb6 (by omega) x y z
      have HKF : Hid (∀ x y z b, W.heap.size ≤ b → ((((w5.setCell ⟨w.heap.size, 2, none⟩ (.slice A5 gn c5)).setCell ⟨w.heap.size + 1, 0, none⟩ x).setCell ⟨w.heap.size + 1, 1, none⟩ y).setCell ⟨w.heap.size + 1, 2, none⟩ z).heap[b]? = w5.heap[b]?) := by
        show ∀ _, _
        intro x y z b hb
        exact (Below.heap_setCell _ _ _ _ (fun e : b = w.heap.size + 1 => by omega)).trans ((Below.heap_setCell _ _ _ _ (fun e : b = w.heap.size + 1 => by omega)).trans ((Below.heap_setCell _ _ _ _ (fun e : b = w.heap.size + 1 => by omega)).trans (Below.heap_setCell _ _ _ _ (fun e : b = w.heap.size => by omega))))
      have HGO := Lib.hid hgo
      clear hgo hCG aS5 aR5 aS6 aR6 aSr aRr hb6
      go_wp2_with fail
      have HFS : Hid (∀ w', w5.heap.size ≤ w'.heap.size → (∀ b, W.heap.size ≤ b → w'.heap[b]? = w5.heap[b]?) → OwnT w' w.heap.size (.slice (some ⟨g, 0, none⟩) k c) L ∧ SimL L tab k) := by
        show ∀ _, _
        exact fun w' h1 h2 => (hC.below b5).fin (by omega) hg0 hnc hcm h1 (fun b hb _ => h2 b hb)
      have hF3 := HFS.out _ (by simp [World.setCell]) (HKF.out (.int .i64 ver) (.slice (some ⟨g, 0, none⟩) k c) (.slice A5 gn c5))
      refine bodyPost_ret (v := .agg #[.int .i64 ver, .slice (some ⟨g, 0, none⟩) k c, .slice A5 gn c5]) (by simp [results, Tryz.results22, go_sem, q0, q1, q2]) rfl ⟨HR.out _ L (.slice A5 gn c5) _ hF3.1 hF3.2 ?_, hfin _ _ _⟩
      rw [hgl]
      exact own_move HGO.out (fun b hb hl => HKF.out _ _ _ b (by omega)) (by omega)
end Go.Proofs.YtnhalfdddcjicaaGreat
