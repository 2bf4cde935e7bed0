/- slices.Insert at grants, whatever room there is; Put. -/
/- Append of a row of grants to one's own. -/
/- slices.Delete at grants, in one's own row. -/
import Derived.Test.YtnhalfdddcjicaaGreatQJav
import Derived.Laws.OwnMore
import Derived.Deep.RegionLaw
namespace Go.Proofs.YtnhalfdddcjicaaGreat
open Go.RowKit

theorem flat_take3 : ∀ (gs : List Gr) (i : Nat), (gs.flatMap Gr.cs).take (i * 3) = (gs.take i).flatMap Gr.cs
  | [], i => by simp
  | g :: r, 0 => by simp
  | g :: r, i + 1 => by
    rw [List.flatMap_cons, List.take_succ_cons, List.flatMap_cons, ← flat_take3 r i, show (i + 1) * 3 = g.cs.length + i * 3 by simp [Gr.cs]; omega, List.take_length_add_append]
theorem flat_drop3 : ∀ (gs : List Gr) (i : Nat), (gs.flatMap Gr.cs).drop (i * 3) = (gs.drop i).flatMap Gr.cs
  | [], i => by simp
  | g :: r, 0 => by simp
  | g :: r, i + 1 => by
    rw [List.flatMap_cons, List.drop_succ_cons, ← flat_drop3 r i, show (i + 1) * 3 = g.cs.length + i * 3 by simp [Gr.cs]; omega, List.drop_length_add_append]

theorem insert_any (base vb : Nat) (v : Value) (n i : Nat) (gs : List Gr) (x : Gr) (w : World) (h : w.ownsRow base 50 3 v n (gs.flatMap Gr.cs)) (hl : gs.length = n) (hv : At w vb 50 x.cs.toArray) (hne : v.ownBlock ≠ some vb) (hi : i ≤ n) (hn : n ≤ 1000) (hb : base ≤ w.heap.size) :
    Calls Tryz.prog 77 #[v, .int .i64 i, .slice (some ⟨vb, 0, none⟩) 1 1] w fun e w' => ∃ v', e = .returned v' ∧ w'.ownsRow base 50 3 v' (n + 1) ((gs.take i ++ x :: gs.drop i).flatMap Gr.cs) ∧ Below base w w' := by
  by_cases hin : i = n
  · subst hin
    refine (insertEnd_any base vb v i _ x w h hv hn hb).mono ?_
    rintro e w' ⟨v', h1, h2, h3⟩
    refine ⟨v', h1, ?_, h3⟩
    rw [List.take_of_length_le (by omega), List.drop_of_length_le (by omega), List.flatMap_append, List.flatMap_cons, List.flatMap_nil, List.append_nil]
    exact h2
  · rcases h.2 with ⟨rfl, rfl⟩ | ⟨g, cap, cur, rfl, hbg, hg, hnc, hcm, hcs, htk⟩
    · omega
    · have hA : At w g 50 cur.toList.toArray := by rw [show cur.toList.toArray = cur by simp]; exact hg
      have hcl : cur.toList.length = cap * 3 := by simpa using hcs
      have hne' : vb ≠ g := fun e => hne (by rw [e]; rfl)
      have h1 : ∀ u ∈ cur.toList.take (n * 3), u.oneCell' = true := fun u hu => by
        rw [htk] at hu
        obtain ⟨a, _, ha⟩ := List.mem_flatMap.1 hu
        exact cs_one a u ha
      have ht : cur.toList.take (i * 3) ++ x.cs ++ (cur.toList.take (n * 3)).drop (i * 3) = (gs.take i ++ x :: gs.drop i).flatMap Gr.cs := by
        rw [show cur.toList.take (i * 3) = (cur.toList.take (n * 3)).take (i * 3) by rw [List.take_take, Nat.min_eq_left (by omega)], htk, flat_take3, flat_drop3]
        rw [List.flatMap_append, List.flatMap_cons, List.append_assoc]
      have hlen : (gs.take i ++ x :: gs.drop i).length = n + 1 := by simp; omega
      have hfl : ((gs.take i ++ x :: gs.drop i).flatMap Gr.cs).length = (n + 1) * 3 := by rw [flat_len3 _ (fun _ => rfl), hlen]
      by_cases hroom : n + 1 ≤ cap
      · refine (insertShift_any base g vb n cap i cur.toList x w hcl hA hv hne' (by omega) hroom hn hbg h1).mono ?_
        rintro e w' ⟨rfl, ⟨l', k1, k2, k3⟩, k4⟩
        exact ⟨_, rfl, ⟨hfl, .inr ⟨g, cap, l'.toArray, rfl, hbg, k1, hroom, hcm, by simpa using k2, by rw [List.toList_toArray, k3, ht]⟩⟩, k4⟩
      · refine (insertGrow_any base g vb n cap i cur.toList x w hcl hA hv (by omega) hnc (by omega) hn hb h1).mono ?_
        rintro e w' ⟨C, rfl, k5, k6, ⟨l', k1, k2, k3⟩, k4⟩
        exact ⟨_, rfl, ⟨hfl, .inr ⟨w.heap.size, C, l'.toArray, rfl, hb, k1, k5, k6, by simpa using k2, by rw [List.toList_toArray, k3, ht]⟩⟩, k4⟩

theorem rowG_cells {w : World} {A : Option Addr} {n : Nat} {gs : List Gr} (hr : RowG w A n gs) : 0 < n → ∃ b off, A = some ⟨b, off, none⟩ ∧ ∀ j, j < n → ∀ i v, (Gr.cs (gs.getD j default))[i]? = some v → w.cell? ⟨b, off + j * 3 + i, none⟩ = some v := fun hn => by
  obtain ⟨b, off, e1, e2, e3⟩ := hr.2.2 hn
  refine ⟨b, off, e1, fun j hj i v hv => ?_⟩
  obtain ⟨c0, c1, c2⟩ := e3 j hj
  generalize gs.getD j default = x at *
  match i, hv with
  | 0, hv => simp [Gr.cs] at hv; rw [Nat.add_zero, c0, hv]
  | 1, hv => simp [Gr.cs] at hv; rw [c1, hv]
  | 2, hv => simp [Gr.cs] at hv; rw [c2, hv]
  | k + 3, hv => simp [Gr.cs] at hv
theorem flat_set3 : ∀ (gs : List Gr) (i : Nat) (b : Int), i < gs.length → (gs.flatMap Gr.cs).set (i * 3 + 2) (.int .i64 b) = (gs.set i ⟨(atG gs i).role, (atG gs i).table, b⟩).flatMap Gr.cs
  | [], i, b, h => absurd h (by simp)
  | g :: r, 0, b, _ => by
    rw [List.flatMap_cons, List.set_cons_zero, List.flatMap_cons]
    rfl
  | g :: r, i + 1, b, h => by
    have ih := flat_set3 r i b (by simpa using h)
    rw [List.flatMap_cons, List.set_cons_succ, List.flatMap_cons]
    show (g.cs ++ r.flatMap Gr.cs).set ((i + 1) * 3 + 2) _ = g.cs ++ (r.set i ⟨(atG r i).role, (atG r i).table, b⟩).flatMap Gr.cs
    rw [← ih, show (i + 1) * 3 + 2 = g.cs.length + (i * 3 + 2) by simp [Gr.cs]; omega]
    rw [List.set_append_right _ _ (by omega), Nat.add_sub_cancel_left]
/-- A row of one's own, taken apart. -/
theorem own_at {w : World} {base n : Nat} {v : Value} {gs : List Gr} (h : w.ownsRow base 50 3 v n (gs.flatMap Gr.cs)) (hn : 0 < n) : ∃ g c l, v = .slice (some ⟨g, 0, none⟩) n c ∧ base ≤ g ∧ At w g 50 (List.toArray l) ∧ n ≤ c ∧ c ≤ maxLen ∧ l.length = c * 3 ∧ l.take (n * 3) = gs.flatMap Gr.cs := by
  rcases h.2 with ⟨_, rfl⟩ | ⟨g, cap, cur, rfl, hbg, hg, hnc, hcm, hcs, htk⟩
  · omega
  · exact ⟨g, cap, cur.toList, rfl, hbg, by rw [show cur.toList.toArray = cur by simp]; exact hg, hnc, hcm, by simpa using hcs, htk⟩
theorem own_mk {w : World} {base n g c : Nat} {l : List Value} {gs : List Gr} (hl : gs.length = n) (hb : base ≤ g) (hA : At w g 50 l.toArray) (hnc : n ≤ c) (hcm : c ≤ maxLen) (hll : l.length = c * 3) (ht : l.take (n * 3) = gs.flatMap Gr.cs) : w.ownsRow base 50 3 (.slice (some ⟨g, 0, none⟩) n c) n (gs.flatMap Gr.cs) :=
  ⟨by rw [flat_len3 _ (fun _ => rfl), hl], .inr ⟨g, c, l.toArray, rfl, hb, hA, hnc, hcm, by simpa using hll, by rw [List.toList_toArray, ht]⟩⟩

def orI (a x : Int) : Int := Go.bits BinOp.or IntKind.i64 a x
/-- What Put makes of a list. -/
def PutR (gs : List Gr) (g : Gr) (er : Int) (gs' : List Gr) : Prop :=
  (goodG g = false ∧ er = 1 ∧ gs' = []) ∨ (goodG g = true ∧ ∃ i b, PlaceG gs g.role g.table i b ∧
    ((b = false ∧ 64 ≤ gs.length ∧ er = 3 ∧ gs' = []) ∨ (b = false ∧ gs.length < 64 ∧ er = 0 ∧ gs' = gs.take i ++ g :: gs.drop i) ∨
     (b = true ∧ er = 0 ∧ gs' = gs.set i ⟨(atG gs i).role, (atG gs i).table, orI (atG gs i).bits g.bits⟩)))
def PutE (gs : List Gr) (g : Gr) (B : Nat) (e : Ending) (w' : World) : Prop := ∃ v er gs', e = .returned (.tuple #[v, .int .i64 er]) ∧ w'.ownsRow B 50 3 v gs'.length (gs'.flatMap Gr.cs) ∧ PutR gs g er gs'

set_option maxRecDepth 100000 in
set_option maxHeartbeats 3200000 in
theorem gput_any (A : Option Addr) (n cap : Nat) (gs : List Gr) (g : Gr) (w : World) (hr : RowG w A n gs) (hn : n ≤ 1000) (hg : g.Ok) :
    Calls Tryz.prog 44 #[.slice A n cap, g.val] w fun e w' => PutE gs g w.heap.size e w' ∧ Below w.heap.size w w' := by
  have hgl := hr.1
  have b0 := below_box w (.cells #[.int .i64 g.role, .string ⟨g.table.toArray⟩, .int .i64 g.bits] 50)
  have aG := At.fresh w 50 #[.int .i64 g.role, .string ⟨g.table.toArray⟩, .int .i64 g.bits]
  have hG := fun w' => ggood_any g w' hg.table
  have hF := fun w' (b : Below w.heap.size w w') => gfind_any A n cap gs g.role g.table w' (hr.below b) (by unfold maxLen; omega)
  unfold Gr.val at hG ⊢
  cases hgd : goodG g with
  | false =>
    rw [hgd] at hG
    have HE : Hid (∀ w', PutE gs g w.heap.size (.returned (.tuple #[.slice none 0 0, .int .i64 1])) w') := by
      show ∀ _, _
      exact fun w' => ⟨_, _, [], rfl, World.ownsRow_nil _ _ _ 3, .inl ⟨hgd, rfl, rfl⟩⟩
    go_enter Tryz.func44, Tryz.ntmps44
    go_wp2_with fail
    refine (hG _).mono ?_
    rintro e w1 ⟨rfl, b1⟩
    have hb1 := below_in b0 b1
    go_wp2_with fail
    exact bodyPost_ret (v := .tuple #[.slice none 0 0, .int .i64 1]) (by simp [results, Tryz.results44, go_sem]) rfl ⟨HE.out _, hb1⟩
  | true =>
    rw [hgd] at hG
    go_enter Tryz.func44, Tryz.ntmps44
    go_wp2_with fail
    refine (hG _).mono ?_
    rintro e w1 ⟨rfl, b1⟩
    have hb1 := below_in b0 b1
    have aG1 := aG.below b1 aG.lt
    obtain ⟨c0, c1, c2⟩ := aG1.tri0
    go_wp2_with fail
    refine (hF _ hb1).mono ?_
    rintro e w2 ⟨⟨i, B, rfl, hp⟩, b2⟩
    have hb2 := below_in hb1 b2
    have aG2 := aG1.below b2 aG1.lt
    clear c0 c1 c2
    have hCl := cloneG_any A n cap gs w2 hgl (by omega) (rowG_cells (hr.below hb2))
    have hnI : I64 (n : Int) := by unfold I64; omega
    cases B with
    | true =>
      have hin := (hp.yes rfl).1
      go_wp2_with fail
      refine hCl.mono ?_
      rintro e w3 ⟨v, rfl, hown, b3⟩
      have hb3 := below_in hb2 b3
      have aG3 := aG2.below b3 aG2.lt
      obtain ⟨q0, q1, q2⟩ := aG3.tri0
      obtain ⟨h, c, l, rfl, hbh, hA, hnc, hcm, hll, ht⟩ := own_at hown (by omega)
      unfold maxLen at hcm
      have hlt3 : i * 3 + 2 < l.length := by rw [hll]; omega
      have hcell : w3.cell? ⟨h, i * 3 + 2, none⟩ = some (.int .i64 (atG gs i).bits) := by
        rw [At.cell hA (i * 3 + 2)]
        have h1 : (l.take (n * 3))[i * 3 + 2]? = l[i * 3 + 2]? := by rw [List.getElem?_take, if_pos (by omega)]
        have h2 := flat_at Gr.cs 3 default (fun _ => rfl) gs i hin 2 (by omega)
        rw [← ht, h1] at h2
        simp only [List.getElem?_toArray]
        rw [h2]
        rfl
      have hfz := At.unfrozen hA (i * 3 + 2)
      have hiI : (i : Int) < (n : Int) := by omega
      have hneh : w.heap.size ≠ h := by
        have := aG2.lt
        have := hb2.size
        omega
      have hA2 : At (w3.drew.setCell ⟨h, i * 3 + 2, none⟩ (.int .i64 (orI (atG gs i).bits g.bits))) h 50 (l.set (i * 3 + 2) (.int .i64 (orI (atG gs i).bits g.bits))).toArray := by
        have := At.put (show At w3.drew h _ _ from hA) (i * 3 + 2) (.int .i64 (orI (atG gs i).bits g.bits))
        rw [List.setIfInBounds_toArray] at this
        exact this
      have HE : Hid (PutE gs g w.heap.size (.returned (.tuple #[.slice (some ⟨h, 0, none⟩) n c, .int .i64 0])) (w3.drew.setCell ⟨h, i * 3 + 2, none⟩ (.int .i64 (orI (atG gs i).bits g.bits)))) := by
        refine ⟨_, _, gs.set i ⟨(atG gs i).role, (atG gs i).table, orI (atG gs i).bits g.bits⟩, rfl, ?_, .inr ⟨hgd, i, true, hp, .inr (.inr ⟨rfl, rfl, rfl⟩)⟩⟩
        rw [List.length_set, hgl]
        refine own_mk (by rw [List.length_set, hgl]) (Nat.le_trans hb2.size hbh) hA2 hnc (by unfold maxLen; omega) (by rw [List.length_set]; exact hll) ?_
        rw [List.take_set, ht]
        exact flat_set3 gs i _ hin
      have hbf : Below w.heap.size w (w3.drew.setCell ⟨h, i * 3 + 2, none⟩ (.int .i64 (orI (atG gs i).bits g.bits))) := hb3.drew.trans ⟨rfl, rfl, rfl, by simp [World.setCell], fun k hk => Below.heap_setCell _ _ _ _ (fun e => by simp at e; have := hb2.size; omega)⟩
      unfold orI at HE hbf
      unfold atG at hcell HE hbf
      generalize (gs.getD i default).bits = bb at hcell HE hbf
      have hcd : w3.drew.cell? ⟨h, i * 3 + 2, none⟩ = some (.int .i64 bb) := hcell
      have hfd : w3.drew.frozen? ⟨h, i * 3 + 2, none⟩ = false := hfz
      have q2d : w3.drew.cell? ⟨w.heap.size, 2, none⟩ = some (.int .i64 g.bits) := q2
      clear hA2 hA hown ht hCl hF hG
      go_wp2_with fail
      go_region
      all_goals
        go_wp2_with fail
        exact bodyPost_ret (v := .tuple #[.slice (some ⟨h, 0, none⟩) n c, .int .i64 0]) (by simp [results, Tryz.results44, go_sem]) rfl ⟨HE.out, hbf⟩
    | false =>
      by_cases h64 : 64 ≤ n
      · have HE : Hid (∀ w', PutE gs g w.heap.size (.returned (.tuple #[.slice none 0 0, .int .i64 3])) w') := by
          show ∀ _, _
          exact fun w' => ⟨_, _, [], rfl, World.ownsRow_nil _ _ _ 3, .inr ⟨hgd, i, false, hp, .inl ⟨rfl, by omega, rfl, rfl⟩⟩⟩
        go_wp2_with fail
        exact bodyPost_ret (v := .tuple #[.slice none 0 0, .int .i64 3]) (by simp [results, Tryz.results44, go_sem]) rfl ⟨HE.out _, hb2⟩
      · go_wp2_with fail
        refine hCl.mono ?_
        rintro e w3 ⟨v, rfl, hown, b3⟩
        have hb3 := below_in hb2 b3
        have aG3 := aG2.below b3 aG2.lt
        obtain ⟨q0, q1, q2⟩ := aG3.tri0
        have hle := hp.le
        have hx := At.fresh w3 50 #[.int .i64 g.role, .string ⟨g.table.toArray⟩, .int .i64 g.bits]
        have hox : (w3.alloc (.cells #[.int .i64 g.role, .string ⟨g.table.toArray⟩, .int .i64 g.bits] 50)).ownsRow w2.heap.size 50 3 v n (gs.flatMap Gr.cs) := World.ownsRow.alloc hown _
        have hIn := insert_any w2.heap.size w3.heap.size v n i gs g _ hox hgl (by show At _ _ _ g.cs.toArray; exact hx) (fun e => by have := hown.lt _ e; omega) (by omega) hn (by have := b3.size; simp; omega)
        have hb4 : Below w.heap.size w (w3.alloc (.cells #[.int .i64 g.role, .string ⟨g.table.toArray⟩, .int .i64 g.bits] 50)) := hb3.alloc hb3.size _
        have HR : Hid (∀ v' w', w'.ownsRow w2.heap.size 50 3 v' (n + 1) ((gs.take i ++ g :: gs.drop i).flatMap Gr.cs) → PutE gs g w.heap.size (.returned (.tuple #[v', .int .i64 0])) w') := by
          show ∀ _ _, _ → _
          intro v' w' ho
          refine ⟨v', 0, gs.take i ++ g :: gs.drop i, rfl, ?_, .inr ⟨hgd, i, false, hp, .inr (.inl ⟨rfl, by omega, rfl, rfl⟩)⟩⟩
          have hlen : (gs.take i ++ g :: gs.drop i).length = n + 1 := by simp; omega
          rw [hlen]
          refine ⟨ho.1, ?_⟩
          rcases ho.2 with hz | ⟨g', cap', cur', k1, k2, k3⟩
          · exact .inl hz
          · exact .inr ⟨g', cap', cur', k1, Nat.le_trans hb2.size k2, k3⟩
        clear hown hox hCl hF hG hp hx
        go_wp2_with fail
        refine hIn.mono ?_
        rintro e w5 ⟨v', rfl, ho, b5⟩
        have hb5 : Below w.heap.size w w5 := hb4.trans (b5.mono hb2.size)
        have HP := Lib.hid (HR.out v' w5 ho)
        clear ho
        go_wp2_with fail
        exact bodyPost_ret (v := .tuple #[v', .int .i64 0]) (by simp [results, Tryz.results44, go_sem]) rfl ⟨HP.out, hb5⟩
end Go.Proofs.YtnhalfdddcjicaaGreat

namespace Go.Proofs.YtnhalfdddcjicaaGreat
open Go.RowKit

set_option maxRecDepth 100000 in
theorem run_append_rowG (w : World) (base : Nat) (ty : TypeId) (v : Value) (n : Nat) (xs : List Value) (h : w.ownsRow base 50 3 v n xs) (A : Option Addr) (m c : Nat) (gs : List Gr) (hr : RowG w A m gs) (hn : n + m ≤ 1000000) (hb : base ≤ w.heap.size) :
    ∃ v' w', (Builtin.append_ #[23, 23] ty #[v, .slice A m c]).run Tryz.prog w = .ok v' w' ∧ w'.ownsRow base 50 3 v' (n + m) (xs ++ gs.flatMap Gr.cs) ∧ w.grownBy w' v.ownBlock := by
  obtain ⟨i0, hi0, hz0, hzs, hzb⟩ := info_parts info_grant
  have hgl := hr.1
  cases A with
  | none =>
    have h0 : m = 0 := by
      rcases Nat.eq_zero_or_pos m with h | h
      · exact h
      · obtain ⟨_, _, h1, _⟩ := hr.2.2 h; cases h1
    subst h0
    obtain rfl : gs = [] := List.eq_nil_of_length_eq_zero hgl
    refine ⟨v, w, ?_, by simpa using h, World.grownBy.refl _ _⟩
    rcases h.2 with ⟨rfl, rfl⟩ | ⟨g, cap, cur, rfl, _, _, hnc, _⟩
    · simp [Builtin.append_, run_underlying (P := Tryz.prog) Tryz.underlying23, sizeOf, typeInfo, hi0, Builtin.lenOf, Builtin.firstCells]
    · simp [Builtin.append_, run_underlying (P := Tryz.prog) Tryz.underlying23, sizeOf, typeInfo, hi0, Builtin.lenOf, Builtin.firstCells, hnc, storeCells]
  | some ad =>
    have hnews : ∀ j u, (gs.flatMap Gr.cs)[j]? = some u → w.cell? (ad.add j) = some u := fun j u hu => by
      have hpos : 0 < m := by
        rcases Nat.eq_zero_or_pos m with h | h
        · obtain rfl : gs = [] := List.eq_nil_of_length_eq_zero (by omega)
          simp at hu
        · exact h
      obtain ⟨b, off, e1, e2⟩ := rowG_cells hr hpos
      injection e1 with e1
      subst e1
      exact rows_news3 Gr.cs default (fun _ => rfl) gs w b off (fun j hj i v hv => e2 j (by omega) i v hv) j u hu
    obtain ⟨v', w', hrun, h2, h3, _, _⟩ := run_append_own_at (P := Tryz.prog) w base 23 ty 50 i0 _ 3 32 Tryz.underlying23 hi0 hz0 hzs hzb rfl (by omega) v n xs h ad m c (gs.flatMap Gr.cs) (by rw [flat_len3 _ (fun _ => rfl), hgl]) hnews (one_cells _ _ (fun a u hu => by simp [Gr.cs] at hu; rcases hu with rfl | rfl | rfl <;> rfl)) (by unfold maxLen; omega) (by omega) hb
    exact ⟨v', w', hrun, h2, h3⟩
theorem wp_append_rowG {ops : Array Oper} {rest : List Oper} {o : Oper} {a : Act} {Q : Exit → Act → World → Prop} {w : World} {base : Nat} {v : Value} {n : Nat} {xs : List Value} (hgd : o.guard = none) (sl x : Operand)
    (hop : o.op = .call { callee := .builtin .append, args := #[sl, x], argTypes := #[23, 23] }) (h : w.ownsRow base 50 3 v n xs) (A : Option Addr) (m c : Nat) (gs : List Gr) (hr : RowG w A m gs)
    (hsl : a.eval sl = v) (hx : a.eval x = .slice A m c) (hn : n + m ≤ 1000000) (hb : base ≤ w.heap.size)
    (hQ : ∀ v' w', w'.ownsRow base 50 3 v' (n + m) (xs ++ gs.flatMap Gr.cs) → w.grownBy w' v.ownBlock → wpList Tryz.prog ops Q rest (a.put o.dst v') w') :
    wpList Tryz.prog ops Q (o :: rest) a w := by
  obtain ⟨v', w', hrun, h2, h3⟩ := run_append_rowG w base o.type v n xs h A m c gs hr hn hb
  refine wpList_plain hgd fun K hK => ?_
  unfold Oper.wp execOp
  simp only [hop, resolve, invoke, builtin, Sem.run_bind, Sem.run_pure, Result.andThen_ok, List.map_toArray, List.map_cons, List.map_nil, hsl, hx, hrun]
  exact hK _ _ (hQ v' w' h2 h3)
end Go.Proofs.YtnhalfdddcjicaaGreat

namespace Go.Proofs.YtnhalfdddcjicaaGreat
open Go.RowKit

def zeroG : List Value := [.int .i64 0, .string ⟨#[]⟩, .int .i64 0]
theorem zero_cells1 : (Builtin.zeroCells (Value.agg #[.int .i64 0, .string ⟨#[]⟩, .int .i64 0]).cells 1).toList = zeroG := by
  simp [Builtin.zeroCells, Value.cells, zeroG]
  rfl
theorem run_clearG (w : World) (ty : TypeId) (b o k c : Nat) (zs : List Value) (hk : 0 < k) (hzs : (Builtin.zeroCells (Value.agg #[.int .i64 0, .string ⟨#[]⟩, .int .i64 0]).cells k).toList = zs) (h1 : ∀ u ∈ zs, u.oneCell' = true)
    (hc : ∀ j, j < zs.length → (w.cell? ⟨b, o + j, none⟩).isSome = true) (hf : ∀ j, j < zs.length → w.frozen? ⟨b, o + j, none⟩ = false) :
    (Builtin.clear_ #[23] ty #[.slice (some ⟨b, o, none⟩) k c]).run Tryz.prog w = .ok (.tuple #[]) (w.setCells b o zs) := by
  have hst := run_storeCells_cells (P := Tryz.prog) b o zs 0 w (by simpa using hc) (by simpa using hf) h1
  simp only [Nat.add_zero] at hst
  obtain ⟨m, rfl⟩ : ∃ m, k = m + 1 := ⟨k - 1, by omega⟩
  simp [Builtin.clear_, run_underlying (P := Tryz.prog) Tryz.underlying23, hzs, hst]

set_option maxRecDepth 100000 in
set_option maxHeartbeats 3200000 in
theorem deleteG_any (base g n c i : Nat) (l : List Value) (w : World) (hl : l.length = c * 3) (hA : At w g 50 l.toArray) (hi : i < n) (hnc : n ≤ c) (hn : n ≤ 1000) (hcm : c ≤ maxLen) (hb : base ≤ g)
    (h1 : ∀ u ∈ l.take (n * 3), u.oneCell' = true) :
    Calls Tryz.prog 78 #[.slice (some ⟨g, 0, none⟩) n c, .int .i64 (i : Nat), .int .i64 ((i + 1 : Nat) : Int)] w fun e w' => e = .returned (.slice (some ⟨g, 0, none⟩) (n - 1) c) ∧
      (∃ l' : List Value, At w' g 50 l'.toArray ∧ l'.length = c * 3 ∧ l'.take ((n - 1) * 3) = l.take (i * 3) ++ (l.take (n * 3)).drop ((i + 1) * 3)) ∧ Below base w w' := by
  unfold maxLen at hcm
  obtain ⟨i0, hi0, hz0, hzs, hzb⟩ := info_parts info_grant
  have t22 := Tryz.underlying23
  have hgl := hA.lt
  have mixed : Tryz.prog.follows .mixedOrders = true := by kernel_rfl
  obtain ⟨j, hj⟩ : ∃ j, i + 1 = j := ⟨_, rfl⟩
  rw [hj]
  have hij : i < j := by omega
  have hjn : j ≤ n := by omega
  obtain ⟨mv, hmv⟩ : ∃ mv, mv = (l.take (n * 3)).drop (j * 3) := ⟨_, rfl⟩
  have hml : mv.length = (n - j) * 3 := by rw [hmv, List.length_drop, List.length_take]; omega
  have hm1 : Hid (∀ u ∈ mv, u.oneCell' = true) := by
    show ∀ _ ∈ _, _
    rw [hmv]
    exact fun u hu => h1 u (List.mem_of_mem_drop hu)
  have hmx : ∀ t u, mv[t]? = some u → w.drew.cell? ⟨g, j * 3 + t, none⟩ = some u := fun t u hu => by
    rw [At.cell (show At w.drew g _ _ from hA) (j * 3 + t)]
    rw [hmv, List.getElem?_drop, List.getElem?_take] at hu
    split at hu
    · simpa using hu
    · cases hu
  obtain ⟨A, hAA, hsrc⟩ : ∃ A : Addr, (if c = j then some (⟨g, 0, none⟩ : Addr) else some ⟨g, j * 3, none⟩) = some A ∧ Hid (∀ t u, mv[t]? = some u → w.drew.cell? (A.add t) = some u) := by
    by_cases h : c = j
    · refine ⟨⟨g, 0, none⟩, by simp [h], fun t u hu => ?_⟩
      have h0 : mv.length = 0 := by rw [hml]; omega
      rw [List.length_eq_zero_iff.1 h0] at hu
      simp at hu
    · refine ⟨⟨g, j * 3, none⟩, by simp [h], fun t u hu => ?_⟩
      rw [add_plain]
      exact hmx t u hu
  have s1 : Hid (mv.length = (n - j) * 3) := hml
  have s3 : Hid (∀ t, t < mv.length → (w.drew.cell? ⟨g, 0 + i * 3 + t, none⟩).isSome = true ∧ w.drew.frozen? ⟨g, 0 + i * 3 + t, none⟩ = false) := by
    show ∀ _, _ → _
    intro t ht
    rw [hml] at ht
    refine ⟨?_, At.unfrozen (show At w.drew g _ _ from hA) _⟩
    rw [At.cell (show At w.drew g _ _ from hA)]
    simp
    omega
  obtain ⟨W1, hW1⟩ : ∃ W1, W1 = w.drew.setCells g (0 + i * 3) mv := ⟨_, rfl⟩
  have hA1 : At W1 g 50 (layL (0 + i * 3) l mv).toArray := by rw [hW1]; exact At.sets mv _ l w.drew hA (by rw [hml]; omega)
  have hL1 : (layL (0 + i * 3) l mv).length = c * 3 := by rw [layL_len (by rw [hml]; omega)]; exact hl
  have hb1 : Below base w W1 := by rw [hW1]; exact below_sets hb _ _ _ (Below.refl base w).drew
  have hW : Hid (W1 = w.drew.setCells g (0 + i * 3) mv) := hW1
  obtain ⟨L1, hL1e⟩ : ∃ L1, L1 = layL (0 + i * 3) l mv := ⟨_, rfl⟩
  rw [← hL1e] at hA1 hL1
  have hk : n - (i + (n - j)) = 1 := by omega
  have hzl : zeroG.length = 3 := rfl
  have hcl : ∀ ty, (Builtin.clear_ #[23] ty #[.slice (some ⟨g, (i + (n - j)) * 3, none⟩) (n - (i + (n - j))) (c - (i + (n - j)))]).run Tryz.prog W1 = .ok (.tuple #[]) (W1.setCells g ((i + (n - j)) * 3) zeroG) :=
    fun ty => run_clearG W1 ty g _ _ _ zeroG (by omega) (by rw [hk]; exact zero_cells1) (fun u hu => by simp [zeroG] at hu; rcases hu with rfl | rfl | rfl <;> rfl)
      (fun t ht => by rw [At.cell hA1]; simp; rw [hzl] at ht; omega) (fun t _ => At.unfrozen hA1 _)
  rw [hk] at hcl
  have HA2 := Lib.hid (At.sets zeroG ((i + (n - j)) * 3) L1 W1 hA1 (by rw [hzl]; omega))
  have hb2 : Below base w (W1.setCells g ((i + (n - j)) * 3) zeroG) := below_sets hb _ _ _ hb1
  have HE : Hid ((layL ((i + (n - j)) * 3) L1 zeroG).length = c * 3 ∧ (layL ((i + (n - j)) * 3) L1 zeroG).take ((n - 1) * 3) = l.take (i * 3) ++ (l.take (n * 3)).drop (j * 3)) := by
    refine ⟨by rw [layL_len (by rw [hzl]; omega)]; exact hL1, ?_⟩
    rw [show (n - 1) * 3 = (i + (n - j)) * 3 by omega, ← hmv]
    show ((L1.take ((i + (n - j)) * 3) ++ zeroG) ++ _).take ((i + (n - j)) * 3) = _
    rw [List.append_assoc, List.take_left' (by rw [List.length_take]; omega), hL1e]
    show (l.take (0 + i * 3) ++ mv ++ _).take ((i + (n - j)) * 3) = _
    rw [List.take_left' (by rw [List.length_append, List.length_take, hml]; omega), Nat.zero_add]
  have hjc : j ≤ c := by omega
  have hic : i ≤ c := by omega
  have hlen : i + (n - j) = n - 1 := by omega
  have HL := Lib.hid hlen
  have HJ := Lib.hid hj
  clear hW1 hL1e hA1 hmx hmv hml hL1 hlen hj hb1
  go_enter Tryz.func78, Tryz.ntmps78
  go_wp2_with fail
  go_region_law_o (refine step_append_room rfl (.tmp 22) (.tmp 25) 23 rfl 50 i0 3 t22 hi0 hzs g 0 i c (by simp [Act.eval, Act.put]) A (n - j) (c - j) mv (by simp [Act.eval, Act.put]) s1.out hsrc.out hm1.out (by omega) s3.out ?_; rw [← hW.out])
  go_wp2_with fail
  go_ret
  exact ⟨by rw [HL.out]; rfl, ⟨_, HA2.out, HE.out.1, HE.out.2⟩, hb2⟩
end Go.Proofs.YtnhalfdddcjicaaGreat
