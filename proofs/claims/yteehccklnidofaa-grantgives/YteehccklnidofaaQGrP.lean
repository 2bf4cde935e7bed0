/- slices.Insert at grants, whatever room there is; Put. -/
import Derived.Test.YteehccklnidofaaQGrK
namespace Go.Proofs.Yteehccklnidofaa
open Go.RowKit

theorem flat_take3 : ∀ (gs : List Gr) (i : Nat), (gs.flatMap Gr.cs).take (i * 3) = (gs.take i).flatMap Gr.cs
  | [], i => by simp
  | g :: r, 0 => by simp
  | g :: r, i + 1 => by
    rw [List.flatMap_cons, List.take_succ_cons, List.flatMap_cons, ← flat_take3 r i, show (i + 1) * 3 = g.cs.length + i * 3 by simp [Gr.cs]; omega, List.take_length_add_append]
theorem flat_drop3 : ∀ (gs : List Gr) (i : Nat), (gs.flatMap Gr.cs).drop (i * 3) = (gs.drop i).flatMap Gr.cs
  | [], i => by simp
  | g :: r, 0 => by simp
  | g :: r, i + 1 => by
    rw [List.flatMap_cons, List.drop_succ_cons, ← flat_drop3 r i, show (i + 1) * 3 = g.cs.length + i * 3 by simp [Gr.cs]; omega, List.drop_length_add_append]

theorem insert_any (base vb : Nat) (v : Value) (n i : Nat) (gs : List Gr) (x : Gr) (w : World) (h : w.ownsRow base 24 3 v n (gs.flatMap Gr.cs)) (hl : gs.length = n) (hv : At w vb 24 x.cs.toArray) (hne : v.ownBlock ≠ some vb) (hi : i ≤ n) (hn : n ≤ 1000) (hb : base ≤ w.heap.size) :
    Calls Try.prog 27 #[v, .int .i64 i, .slice (some ⟨vb, 0, none⟩) 1 1] w fun e w' => ∃ v', e = .returned v' ∧ w'.ownsRow base 24 3 v' (n + 1) ((gs.take i ++ x :: gs.drop i).flatMap Gr.cs) ∧ Below base w w' := by
  by_cases hin : i = n
  · subst hin
    refine (insertEnd_any base vb v i _ x w h hv hn hb).mono ?_
    rintro e w' ⟨v', h1, h2, h3⟩
    refine ⟨v', h1, ?_, h3⟩
    rw [List.take_of_length_le (by omega), List.drop_of_length_le (by omega), List.flatMap_append, List.flatMap_cons, List.flatMap_nil, List.append_nil]
    exact h2
  · rcases h.2 with ⟨rfl, rfl⟩ | ⟨g, cap, cur, rfl, hbg, hg, hnc, hcm, hcs, htk⟩
    · omega
    · have hA : At w g 24 cur.toList.toArray := by rw [show cur.toList.toArray = cur by simp]; exact hg
      have hcl : cur.toList.length = cap * 3 := by simpa using hcs
      have hne' : vb ≠ g := fun e => hne (by rw [e]; rfl)
      have h1 : ∀ u ∈ cur.toList.take (n * 3), u.oneCell' = true := fun u hu => by
        rw [htk] at hu
        obtain ⟨a, _, ha⟩ := List.mem_flatMap.1 hu
        exact cs_one a u ha
      have ht : cur.toList.take (i * 3) ++ x.cs ++ (cur.toList.take (n * 3)).drop (i * 3) = (gs.take i ++ x :: gs.drop i).flatMap Gr.cs := by
        rw [show cur.toList.take (i * 3) = (cur.toList.take (n * 3)).take (i * 3) by rw [List.take_take, Nat.min_eq_left (by omega)], htk, flat_take3, flat_drop3]
        rw [List.flatMap_append, List.flatMap_cons, List.append_assoc]
      have hlen : (gs.take i ++ x :: gs.drop i).length = n + 1 := by simp; omega
      have hfl : ((gs.take i ++ x :: gs.drop i).flatMap Gr.cs).length = (n + 1) * 3 := by rw [flat_len3 _ (fun _ => rfl), hlen]
      by_cases hroom : n + 1 ≤ cap
      · refine (insertShift_any base g vb n cap i cur.toList x w hcl hA hv hne' (by omega) hroom hn hbg h1).mono ?_
        rintro e w' ⟨rfl, ⟨l', k1, k2, k3⟩, k4⟩
        exact ⟨_, rfl, ⟨hfl, .inr ⟨g, cap, l'.toArray, rfl, hbg, k1, hroom, hcm, by simpa using k2, by rw [List.toList_toArray, k3, ht]⟩⟩, k4⟩
      · refine (insertGrow_any base g vb n cap i cur.toList x w hcl hA hv (by omega) hnc (by omega) hn hb h1).mono ?_
        rintro e w' ⟨C, rfl, k5, k6, ⟨l', k1, k2, k3⟩, k4⟩
        exact ⟨_, rfl, ⟨hfl, .inr ⟨w.heap.size, C, l'.toArray, rfl, hb, k1, k5, k6, by simpa using k2, by rw [List.toList_toArray, k3, ht]⟩⟩, k4⟩

theorem rowG_cells {w : World} {A : Option Addr} {n : Nat} {gs : List Gr} (hr : RowG w A n gs) : 0 < n → ∃ b off, A = some ⟨b, off, none⟩ ∧ ∀ j, j < n → ∀ i v, (Gr.cs (gs.getD j default))[i]? = some v → w.cell? ⟨b, off + j * 3 + i, none⟩ = some v := fun hn => by
  obtain ⟨b, off, e1, e2, e3⟩ := hr.2.2 hn
  refine ⟨b, off, e1, fun j hj i v hv => ?_⟩
  obtain ⟨c0, c1, c2⟩ := e3 j hj
  generalize gs.getD j default = x at *
  match i, hv with
  | 0, hv => simp [Gr.cs] at hv; rw [Nat.add_zero, c0, hv]
  | 1, hv => simp [Gr.cs] at hv; rw [c1, hv]
  | 2, hv => simp [Gr.cs] at hv; rw [c2, hv]
  | k + 3, hv => simp [Gr.cs] at hv
theorem flat_set3 : ∀ (gs : List Gr) (i : Nat) (b : Int), i < gs.length → (gs.flatMap Gr.cs).set (i * 3 + 2) (.int .i64 b) = (gs.set i ⟨(atG gs i).role, (atG gs i).table, b⟩).flatMap Gr.cs
  | [], i, b, h => absurd h (by simp)
  | g :: r, 0, b, _ => by
    rw [List.flatMap_cons, List.set_cons_zero, List.flatMap_cons]
    rfl
  | g :: r, i + 1, b, h => by
    have ih := flat_set3 r i b (by simpa using h)
    rw [List.flatMap_cons, List.set_cons_succ, List.flatMap_cons]
    show (g.cs ++ r.flatMap Gr.cs).set ((i + 1) * 3 + 2) _ = g.cs ++ (r.set i ⟨(atG r i).role, (atG r i).table, b⟩).flatMap Gr.cs
    rw [← ih, show (i + 1) * 3 + 2 = g.cs.length + (i * 3 + 2) by simp [Gr.cs]; omega]
    rw [List.set_append_right _ _ (by omega), Nat.add_sub_cancel_left]
/-- A row of one's own, taken apart. -/
theorem own_at {w : World} {base n : Nat} {v : Value} {gs : List Gr} (h : w.ownsRow base 24 3 v n (gs.flatMap Gr.cs)) (hn : 0 < n) : ∃ g c l, v = .slice (some ⟨g, 0, none⟩) n c ∧ base ≤ g ∧ At w g 24 (List.toArray l) ∧ n ≤ c ∧ c ≤ maxLen ∧ l.length = c * 3 ∧ l.take (n * 3) = gs.flatMap Gr.cs := by
  rcases h.2 with ⟨_, rfl⟩ | ⟨g, cap, cur, rfl, hbg, hg, hnc, hcm, hcs, htk⟩
  · omega
  · exact ⟨g, cap, cur.toList, rfl, hbg, by rw [show cur.toList.toArray = cur by simp]; exact hg, hnc, hcm, by simpa using hcs, htk⟩
theorem own_mk {w : World} {base n g c : Nat} {l : List Value} {gs : List Gr} (hl : gs.length = n) (hb : base ≤ g) (hA : At w g 24 l.toArray) (hnc : n ≤ c) (hcm : c ≤ maxLen) (hll : l.length = c * 3) (ht : l.take (n * 3) = gs.flatMap Gr.cs) : w.ownsRow base 24 3 (.slice (some ⟨g, 0, none⟩) n c) n (gs.flatMap Gr.cs) :=
  ⟨by rw [flat_len3 _ (fun _ => rfl), hl], .inr ⟨g, c, l.toArray, rfl, hb, hA, hnc, hcm, by simpa using hll, by rw [List.toList_toArray, ht]⟩⟩

def orI (a x : Int) : Int := Go.bits BinOp.or IntKind.i64 a x
/-- What Put makes of a list. -/
def PutR (gs : List Gr) (g : Gr) (er : Int) (gs' : List Gr) : Prop :=
  (goodG g = false ∧ er = 1 ∧ gs' = []) ∨ (goodG g = true ∧ ∃ i b, PlaceG gs g.role g.table i b ∧
    ((b = false ∧ 64 ≤ gs.length ∧ er = 3 ∧ gs' = []) ∨ (b = false ∧ gs.length < 64 ∧ er = 0 ∧ gs' = gs.take i ++ g :: gs.drop i) ∨
     (b = true ∧ er = 0 ∧ gs' = gs.set i ⟨(atG gs i).role, (atG gs i).table, orI (atG gs i).bits g.bits⟩)))
def PutE (gs : List Gr) (g : Gr) (B : Nat) (e : Ending) (w' : World) : Prop := ∃ v er gs', e = .returned (.tuple #[v, .int .i64 er]) ∧ w'.ownsRow B 24 3 v gs'.length (gs'.flatMap Gr.cs) ∧ PutR gs g er gs'

set_option maxRecDepth 100000 in
set_option maxHeartbeats 3200000 in
theorem gput_any (A : Option Addr) (n cap : Nat) (gs : List Gr) (g : Gr) (w : World) (hr : RowG w A n gs) (hn : n ≤ 1000) (hg : g.Ok) :
    Calls Try.prog 11 #[.slice A n cap, g.val] w fun e w' => PutE gs g w.heap.size e w' ∧ Below w.heap.size w w' := by
  have hgl := hr.1
  have b0 := below_box w (.cells #[.int .i64 g.role, .string ⟨g.table.toArray⟩, .int .i64 g.bits] 24)
  have aG := At.fresh w 24 #[.int .i64 g.role, .string ⟨g.table.toArray⟩, .int .i64 g.bits]
  have hG := fun w' => ggood_any g w' hg.table
  have hF := fun w' (b : Below w.heap.size w w') => gfind_any A n cap gs g.role g.table w' (hr.below b) (by unfold maxLen; omega)
  unfold Gr.val at hG ⊢
  cases hgd : goodG g with
  | false =>
    rw [hgd] at hG
    have HE : Hid (∀ w', PutE gs g w.heap.size (.returned (.tuple #[.slice none 0 0, .int .i64 1])) w') := by
      show ∀ _, _
      exact fun w' => ⟨_, _, [], rfl, World.ownsRow_nil _ _ _ 3, .inl ⟨hgd, rfl, rfl⟩⟩
    go_enter Try.func11, Try.ntmps11
    go_wp2_with fail
    refine (hG _).mono ?_
    rintro e w1 ⟨rfl, b1⟩
    have hb1 := below_in b0 b1
    go_wp2_with fail
    exact bodyPost_ret (v := .tuple #[.slice none 0 0, .int .i64 1]) (by simp [results, Try.results11, go_sem]) rfl ⟨HE.out _, hb1⟩
  | true =>
    rw [hgd] at hG
    go_enter Try.func11, Try.ntmps11
    go_wp2_with fail
    refine (hG _).mono ?_
    rintro e w1 ⟨rfl, b1⟩
    have hb1 := below_in b0 b1
    have aG1 := aG.below b1 aG.lt
    obtain ⟨c0, c1, c2⟩ := aG1.tri0
    go_wp2_with fail
    refine (hF _ hb1).mono ?_
    rintro e w2 ⟨⟨i, B, rfl, hp⟩, b2⟩
    have hb2 := below_in hb1 b2
    have aG2 := aG1.below b2 aG1.lt
    clear c0 c1 c2
    have hCl := cloneG_any A n cap gs w2 hgl (by omega) (rowG_cells (hr.below hb2))
    have hnI : I64 (n : Int) := by unfold I64; omega
    cases B with
    | true =>
      have hin := (hp.yes rfl).1
      go_wp2_with fail
      refine hCl.mono ?_
      rintro e w3 ⟨v, rfl, hown, b3⟩
      have hb3 := below_in hb2 b3
      have aG3 := aG2.below b3 aG2.lt
      obtain ⟨q0, q1, q2⟩ := aG3.tri0
      obtain ⟨h, c, l, rfl, hbh, hA, hnc, hcm, hll, ht⟩ := own_at hown (by omega)
      unfold maxLen at hcm
      have hlt3 : i * 3 + 2 < l.length := by rw [hll]; omega
      have hcell : w3.cell? ⟨h, i * 3 + 2, none⟩ = some (.int .i64 (atG gs i).bits) := by
        rw [At.cell hA (i * 3 + 2)]
        have h1 : (l.take (n * 3))[i * 3 + 2]? = l[i * 3 + 2]? := by rw [List.getElem?_take, if_pos (by omega)]
        have h2 := flat_at Gr.cs 3 default (fun _ => rfl) gs i hin 2 (by omega)
        rw [← ht, h1] at h2
        simp only [List.getElem?_toArray]
        rw [h2]
        rfl
      have hfz := At.unfrozen hA (i * 3 + 2)
      have hiI : (i : Int) < (n : Int) := by omega
      have hneh : w.heap.size ≠ h := by
        have := aG2.lt
        have := hb2.size
        omega
      have hA2 : At (w3.drew.setCell ⟨h, i * 3 + 2, none⟩ (.int .i64 (orI (atG gs i).bits g.bits))) h 24 (l.set (i * 3 + 2) (.int .i64 (orI (atG gs i).bits g.bits))).toArray := by
        have := At.put (show At w3.drew h _ _ from hA) (i * 3 + 2) (.int .i64 (orI (atG gs i).bits g.bits))
        rw [List.setIfInBounds_toArray] at this
        exact this
      have HE : Hid (PutE gs g w.heap.size (.returned (.tuple #[.slice (some ⟨h, 0, none⟩) n c, .int .i64 0])) (w3.drew.setCell ⟨h, i * 3 + 2, none⟩ (.int .i64 (orI (atG gs i).bits g.bits)))) := by
        refine ⟨_, _, gs.set i ⟨(atG gs i).role, (atG gs i).table, orI (atG gs i).bits g.bits⟩, rfl, ?_, .inr ⟨hgd, i, true, hp, .inr (.inr ⟨rfl, rfl, rfl⟩)⟩⟩
        rw [List.length_set, hgl]
        refine own_mk (by rw [List.length_set, hgl]) (Nat.le_trans hb2.size hbh) hA2 hnc (by unfold maxLen; omega) (by rw [List.length_set]; exact hll) ?_
        rw [List.take_set, ht]
        exact flat_set3 gs i _ hin
      have hbf : Below w.heap.size w (w3.drew.setCell ⟨h, i * 3 + 2, none⟩ (.int .i64 (orI (atG gs i).bits g.bits))) := hb3.drew.trans ⟨rfl, rfl, rfl, by simp [World.setCell], fun k hk => Below.heap_setCell _ _ _ _ (fun e => by simp at e; have := hb2.size; omega)⟩
      unfold orI at HE hbf
      unfold atG at hcell HE hbf
      generalize (gs.getD i default).bits = bb at hcell HE hbf
      have hcd : w3.drew.cell? ⟨h, i * 3 + 2, none⟩ = some (.int .i64 bb) := hcell
      have hfd : w3.drew.frozen? ⟨h, i * 3 + 2, none⟩ = false := hfz
      have q2d : w3.drew.cell? ⟨w.heap.size, 2, none⟩ = some (.int .i64 g.bits) := q2
      clear hA2 hA hown ht hCl hF hG
      go_wp2_with fail
      go_region
      all_goals
        go_wp2_with fail
        exact bodyPost_ret (v := .tuple #[.slice (some ⟨h, 0, none⟩) n c, .int .i64 0]) (by simp [results, Try.results11, go_sem]) rfl ⟨HE.out, hbf⟩
    | false =>
      by_cases h64 : 64 ≤ n
      · have HE : Hid (∀ w', PutE gs g w.heap.size (.returned (.tuple #[.slice none 0 0, .int .i64 3])) w') := by
          show ∀ _, _
          exact fun w' => ⟨_, _, [], rfl, World.ownsRow_nil _ _ _ 3, .inr ⟨hgd, i, false, hp, .inl ⟨rfl, by omega, rfl, rfl⟩⟩⟩
        go_wp2_with fail
        exact bodyPost_ret (v := .tuple #[.slice none 0 0, .int .i64 3]) (by simp [results, Try.results11, go_sem]) rfl ⟨HE.out _, hb2⟩
      · go_wp2_with fail
        refine hCl.mono ?_
        rintro e w3 ⟨v, rfl, hown, b3⟩
        have hb3 := below_in hb2 b3
        have aG3 := aG2.below b3 aG2.lt
        obtain ⟨q0, q1, q2⟩ := aG3.tri0
        have hle := hp.le
        have hx := At.fresh w3 24 #[.int .i64 g.role, .string ⟨g.table.toArray⟩, .int .i64 g.bits]
        have hox : (w3.alloc (.cells #[.int .i64 g.role, .string ⟨g.table.toArray⟩, .int .i64 g.bits] 24)).ownsRow w2.heap.size 24 3 v n (gs.flatMap Gr.cs) := World.ownsRow.alloc hown _
        have hIn := insert_any w2.heap.size w3.heap.size v n i gs g _ hox hgl (by show At _ _ _ g.cs.toArray; exact hx) (fun e => by have := hown.lt _ e; omega) (by omega) hn (by have := b3.size; simp; omega)
        have hb4 : Below w.heap.size w (w3.alloc (.cells #[.int .i64 g.role, .string ⟨g.table.toArray⟩, .int .i64 g.bits] 24)) := hb3.alloc hb3.size _
        have HR : Hid (∀ v' w', w'.ownsRow w2.heap.size 24 3 v' (n + 1) ((gs.take i ++ g :: gs.drop i).flatMap Gr.cs) → PutE gs g w.heap.size (.returned (.tuple #[v', .int .i64 0])) w') := by
          show ∀ _ _, _ → _
          intro v' w' ho
          refine ⟨v', 0, gs.take i ++ g :: gs.drop i, rfl, ?_, .inr ⟨hgd, i, false, hp, .inr (.inl ⟨rfl, by omega, rfl, rfl⟩)⟩⟩
          have hlen : (gs.take i ++ g :: gs.drop i).length = n + 1 := by simp; omega
          rw [hlen]
          refine ⟨ho.1, ?_⟩
          rcases ho.2 with hz | ⟨g', cap', cur', k1, k2, k3⟩
          · exact .inl hz
          · exact .inr ⟨g', cap', cur', k1, Nat.le_trans hb2.size k2, k3⟩
        clear hown hox hCl hF hG hp hx
        go_wp2_with fail
        refine hIn.mono ?_
        rintro e w5 ⟨v', rfl, ho, b5⟩
        have hb5 : Below w.heap.size w w5 := hb4.trans (b5.mono hb2.size)
        have HP := Lib.hid (HR.out v' w5 ho)
        clear ho
        go_wp2_with fail
        exact bodyPost_ret (v := .tuple #[v', .int .i64 0]) (by simp [results, Try.results11, go_sem]) rfl ⟨HP.out, hb5⟩
end Go.Proofs.Yteehccklnidofaa
