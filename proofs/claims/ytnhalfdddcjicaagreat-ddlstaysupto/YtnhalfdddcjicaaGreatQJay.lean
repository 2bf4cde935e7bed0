/- Take. -/
/- Plain mathematics of Take. -/
/- Without. -/
/- Plain mathematics of what is given and taken, in the words of May. -/
import Derived.Test.YtnhalfdddcjicaaGreatQJaw
import Derived.Test.YtnhalfdddcjicaaGreatQJax
import Derived.Test.YtnhalfdddcjicaaGreatQJau
namespace Go.Proofs.YtnhalfdddcjicaaGreat
open Go.RowKit

theorem own_below {w w' : World} {base : Nat} {e : TypeId} {size n : Nat} {v : Value} {xs : List Value} (h : w.ownsRow base e size v n xs) (hb : Below w.heap.size w w') : w'.ownsRow base e size v n xs := by
  refine ⟨h.1, ?_⟩
  rcases h.2 with k | ⟨g, cap, cur, rfl, hg, hh, k⟩
  · exact .inl k
  · exact .inr ⟨g, cap, cur, rfl, hg, (hb.block g (Array.getElem?_eq_some_iff.1 hh).1).trans hh, k⟩
theorem own_mono {w : World} {base base' : Nat} {e : TypeId} {size n : Nat} {v : Value} {xs : List Value} (h : w.ownsRow base e size v n xs) (hb : base' ≤ base) : w.ownsRow base' e size v n xs := by
  refine ⟨h.1, ?_⟩
  rcases h.2 with k | ⟨g, cap, cur, rfl, hg, k⟩
  · exact .inl k
  · exact .inr ⟨g, cap, cur, rfl, Nat.le_trans hb hg, k⟩
def anI (a x : Int) : Int := Go.bits BinOp.andNot IntKind.i64 a x
/-- What Take makes of a list. -/
def TakeR (gs : List Gr) (g : Gr) (er : Int) (gs' : List Gr) : Prop :=
  (goodG g = false ∧ er = 1 ∧ gs' = []) ∨ (goodG g = true ∧ er = 0 ∧ ∃ i b, PlaceG gs g.role g.table i b ∧
    ((b = false ∧ gs' = gs) ∨ (b = true ∧ anI (atG gs i).bits g.bits ≠ 0 ∧ gs' = gs.set i ⟨(atG gs i).role, (atG gs i).table, anI (atG gs i).bits g.bits⟩) ∨
     (b = true ∧ anI (atG gs i).bits g.bits = 0 ∧ gs' = gs.take i ++ gs.drop (i + 1))))
def TakeE (gs : List Gr) (g : Gr) (B : Nat) (e : Ending) (w' : World) : Prop := ∃ v er gs', e = .returned (.tuple #[v, .int .i64 er]) ∧ w'.ownsRow B 50 3 v gs'.length (gs'.flatMap Gr.cs) ∧ TakeR gs g er gs'

set_option maxRecDepth 100000 in
set_option maxHeartbeats 3200000 in
theorem gtake_any (A : Option Addr) (n cap : Nat) (gs : List Gr) (g : Gr) (w : World) (hr : RowG w A n gs) (hn : n ≤ 1000) (hg : g.Ok) :
    Calls Tryz.prog 45 #[.slice A n cap, g.val] w fun e w' => TakeE gs g w.heap.size e w' ∧ Below w.heap.size w w' := by
  have hgl := hr.1
  have b0 := below_box w (.cells #[.int .i64 g.role, .string ⟨g.table.toArray⟩, .int .i64 g.bits] 50)
  have aG := At.fresh w 50 #[.int .i64 g.role, .string ⟨g.table.toArray⟩, .int .i64 g.bits]
  have hG := fun w' => ggood_any g w' hg.table
  unfold Gr.val at hG ⊢
  cases hgd : goodG g with
  | false =>
    rw [hgd] at hG
    have HE : Hid (∀ w', TakeE gs g w.heap.size (.returned (.tuple #[.slice none 0 0, .int .i64 1])) w') := by
      show ∀ _, _
      exact fun w' => ⟨_, _, [], rfl, World.ownsRow_nil _ _ _ 3, .inl ⟨hgd, rfl, rfl⟩⟩
    go_enter Tryz.func45, Tryz.ntmps45
    go_wp2_with fail
    refine (hG _).mono ?_
    rintro e w1 ⟨rfl, b1⟩
    have hb1 := below_in b0 b1
    go_wp2_with fail
    exact bodyPost_ret (v := .tuple #[.slice none 0 0, .int .i64 1]) (by simp [results, Tryz.results45, go_sem]) rfl ⟨HE.out _, hb1⟩
  | true =>
    rw [hgd] at hG
    go_enter Tryz.func45, Tryz.ntmps45
    go_wp2_with fail
    refine (hG _).mono ?_
    rintro e w1 ⟨rfl, b1⟩
    have hb1 := below_in b0 b1
    have aG1 := aG.below b1 aG.lt
    have hCl := cloneG_any A n cap gs w1 hgl (by omega) (rowG_cells (hr.below hb1))
    go_wp2_with fail
    refine hCl.mono ?_
    rintro e w3 ⟨v, rfl, hown, b3⟩
    clear hCl
    have hb3 := below_in hb1 b3
    have aG3 := aG1.below b3 aG1.lt
    obtain ⟨A', c, rfl, hrow, hnc⟩ : ∃ A' c, v = .slice A' n c ∧ RowG w3 A' n gs ∧ n ≤ c := by
      have h1 : w3.ownsRow w1.heap.size 50 3 v gs.length (gs.flatMap Gr.cs) := by rw [hgl]; exact hown
      have h2 := own_rowG h1 hr.2.1
      rw [hgl] at h2
      exact h2
    have hF := gfind_any A' n c gs g.role g.table w3 hrow (by unfold maxLen; omega)
    obtain ⟨c0, c1, c2⟩ := aG3.tri0
    have HOW := Lib.hid hown
    clear hown
    go_wp2_with fail
    refine hF.mono ?_
    rintro e w4 ⟨⟨i, B, rfl, hp⟩, b4⟩
    clear hF c0 c1 c2
    have hb4 := below_in hb3 b4
    have aG4 := aG3.below b4 aG3.lt
    have how := own_below HOW.out b4
    clear HOW
    cases B with
    | false =>
      have HE : Hid (TakeE gs g w.heap.size (.returned (.tuple #[.slice A' n c, .int .i64 0])) w4) := by
        refine ⟨_, _, gs, rfl, ?_, .inr ⟨hgd, rfl, i, false, hp, .inl ⟨rfl, rfl⟩⟩⟩
        rw [hgl]
        exact own_mono how hb1.size
      clear how
      go_wp2_with fail
      exact bodyPost_ret (v := .tuple #[.slice A' n c, .int .i64 0]) (by simp [results, Tryz.results45, go_sem]) rfl ⟨HE.out, hb4⟩
    | true =>
      have hin := (hp.yes rfl).1
      obtain ⟨q0, q1, q2⟩ := aG4.tri0
      obtain ⟨h, c2, l, hv, hbh, hA, hnc2, hcm, hll, ht⟩ := own_at how (by omega)
      injection hv with hv1 hv2 hv3
      subst hv1
      subst hv3
      clear how hrow hnc hv2
      unfold maxLen at hcm
      have hlt3 : i * 3 + 2 < l.length := by rw [hll]; omega
      have hcell : w4.cell? ⟨h, i * 3 + 2, none⟩ = some (.int .i64 (atG gs i).bits) := by
        rw [At.cell hA (i * 3 + 2)]
        have h1 : (l.take (n * 3))[i * 3 + 2]? = l[i * 3 + 2]? := by rw [List.getElem?_take, if_pos (by omega)]
        have h2 := flat_at Gr.cs 3 default (fun _ => rfl) gs i hin 2 (by omega)
        rw [← ht, h1] at h2
        simp only [List.getElem?_toArray]
        rw [h2]
        rfl
      have hfz := At.unfrozen hA (i * 3 + 2)
      have hiI : (i : Int) < (n : Int) := by omega
      have hnI : I64 (n : Int) := by unfold I64; omega
      have hneh : w.heap.size ≠ h := by
        have := aG1.lt
        omega
      obtain ⟨nb, hnb⟩ : ∃ nb, anI (atG gs i).bits g.bits = nb := ⟨_, rfl⟩
      have hA2 : At (w4.drew.setCell ⟨h, i * 3 + 2, none⟩ (.int .i64 nb)) h 50 (l.set (i * 3 + 2) (.int .i64 nb)).toArray := by
        have := At.put (show At w4.drew h _ _ from hA) (i * 3 + 2) (.int .i64 nb)
        rw [List.setIfInBounds_toArray] at this
        exact this
      have hbf : Below w.heap.size w (w4.drew.setCell ⟨h, i * 3 + 2, none⟩ (.int .i64 nb)) := hb4.drew.trans ⟨rfl, rfl, rfl, by simp [World.setCell], fun k hk => Below.heap_setCell _ _ _ _ (fun e => by simp at e; have := hb1.size; omega)⟩
      have ht2 : (l.set (i * 3 + 2) (.int .i64 nb)).take (n * 3) = (gs.set i ⟨(atG gs i).role, (atG gs i).table, nb⟩).flatMap Gr.cs := by
        rw [List.take_set, ht]
        exact flat_set3 gs i _ hin
      have hl2 : (l.set (i * 3 + 2) (.int .i64 nb)).length = c * 3 := by rw [List.length_set]; exact hll
      have hc2 : (w4.drew.setCell ⟨h, i * 3 + 2, none⟩ (.int .i64 nb)).cell? ⟨h, i * 3 + 2, none⟩ = some (.int .i64 nb) := by
        rw [At.cell hA2 (i * 3 + 2)]
        simp [hlt3]
      have HP := Lib.hid hp
      have HT := Lib.hid ht2
      have HN := Lib.hid hnb
      obtain ⟨L2, hL2⟩ : ∃ L2, L2 = l.set (i * 3 + 2) (.int .i64 nb) := ⟨_, rfl⟩
      rw [← hL2] at hA2 hl2
      have HL := Lib.hid hL2
      clear hp ht2 hL2 hA ht
      unfold anI at hnb
      unfold atG at hcell hnb
      generalize (gs.getD i default).bits = bb at hcell hnb
      have hcd : w4.drew.cell? ⟨h, i * 3 + 2, none⟩ = some (.int .i64 bb) := hcell
      have hfd : w4.drew.frozen? ⟨h, i * 3 + 2, none⟩ = false := hfz
      have q2d : w4.drew.cell? ⟨w.heap.size, 2, none⟩ = some (.int .i64 g.bits) := q2
      have HC : Hid (nb ≠ 0 → TakeE gs g w.heap.size (.returned (.tuple #[.slice (some ⟨h, 0, none⟩) n c, .int .i64 0])) (w4.drew.setCell ⟨h, i * 3 + 2, none⟩ (.int .i64 nb))) := by
        show _ → _
        intro hz
        refine ⟨_, _, gs.set i ⟨(atG gs i).role, (atG gs i).table, nb⟩, rfl, ?_, .inr ⟨hgd, rfl, i, true, HP.out, .inr (.inl ⟨rfl, by rw [HN.out]; exact hz, by rw [HN.out]⟩)⟩⟩
        rw [List.length_set, hgl]
        exact own_mk (by rw [List.length_set, hgl]) (Nat.le_trans hb1.size hbh) hA2 hnc2 (by unfold maxLen; omega) hl2 (by rw [HL.out]; exact HT.out)
      have HDl : Hid (nb = 0 → Calls Tryz.prog 78 #[.slice (some ⟨h, 0, none⟩) n c, .int .i64 (i : Nat), .int .i64 ((i : Int) + 1)] (w4.drew.setCell ⟨h, i * 3 + 2, none⟩ (.int .i64 nb)) fun e w' => ∃ v, e = .returned v ∧ (∀ er, er = (0 : Int) → TakeE gs g w.heap.size (.returned (.tuple #[v, .int .i64 er])) w') ∧ Below w.heap.size w w') := by
        show _ → _
        intro hz
        have hD := deleteG_any w.heap.size h n c i L2 _ hl2 hA2 (by omega) hnc2 hn (by unfold maxLen; omega) (by have := hb1.size; omega) (fun u hu => by
          rw [HL.out, HT.out] at hu
          obtain ⟨a, _, ha⟩ := List.mem_flatMap.1 hu
          exact cs_one a u ha)
        rw [show ((i + 1 : Nat) : Int) = (i : Int) + 1 by omega] at hD
        refine hD.mono ?_
        rintro e w' ⟨rfl, ⟨l', k1, k2, k3⟩, k4⟩
        refine ⟨_, rfl, fun er her => ?_, hbf.trans k4⟩
        subst her
        refine ⟨_, _, gs.take i ++ gs.drop (i + 1), rfl, ?_, .inr ⟨hgd, rfl, i, true, HP.out, .inr (.inr ⟨rfl, by rw [HN.out]; exact hz, rfl⟩)⟩⟩
        have hlen : (gs.take i ++ gs.drop (i + 1)).length = n - 1 := by simp; omega
        rw [hlen]
        refine own_mk hlen (by have := hb1.size; omega) k1 (by omega) (by unfold maxLen; omega) k2 ?_
        have ek := HT.out
        rw [← HL.out] at ek
        rw [k3, show L2.take (i * 3) = (L2.take (n * 3)).take (i * 3) by rw [List.take_take, Nat.min_eq_left (by omega)], ek, flat_take3, flat_drop3, List.take_set_of_le (Nat.le_refl _), List.drop_set_of_lt (by omega), List.flatMap_append]
      subst hnb
      clear hG
      go_wp2_with fail
      go_region
      all_goals go_wp2_with fail
      all_goals first
        | exact bodyPost_ret (v := .tuple #[.slice (some ⟨h, 0, none⟩) n c, .int .i64 0]) (by simp [results, Tryz.results45, go_sem]) rfl ⟨HC.out (by simpa using ‹(Go.bits BinOp.andNot IntKind.i64 bb g.bits == 0) = false›), hbf⟩
        | (refine (HDl.out (by simpa using ‹(Go.bits BinOp.andNot IntKind.i64 bb g.bits == 0) = true›)).mono ?_
           rintro e w5 ⟨v, rfl, h5, b5⟩
           have H5 := Lib.hid (h5 0 rfl)
           clear h5
           go_wp2_with fail
           exact bodyPost_ret (v := .tuple #[v, .int .i64 0]) (by simp [results, Tryz.results45, go_sem]) rfl ⟨H5.out, b5⟩)
end Go.Proofs.YtnhalfdddcjicaaGreat

namespace Go.Proofs.YtnhalfdddcjicaaGreat

theorem anI_nat {a b : Nat} (ha : a < 32) (_hb : b < 32) : ∃ k : Nat, anI (a : Int) (b : Int) = (k : Int) ∧ k = (BitVec.ofNat 64 a &&& ~~~ BitVec.ofNat 64 b).toNat ∧ k ≤ a := by
  have hle : (BitVec.ofNat 64 a &&& ~~~ BitVec.ofNat 64 b).toNat ≤ a := by
    rw [BitVec.toNat_and]
    refine Nat.le_trans Nat.and_le_left ?_
    rw [BitVec.toNat_ofNat]
    exact Nat.mod_le _ _
  refine ⟨_, ?_, rfl, hle⟩
  show IntKind.i64.wrap ((BitVec.ofInt 64 (a : Int) &&& ~~~ BitVec.ofInt 64 (b : Int)).toNat : Int) = _
  rw [BitVec.ofInt_natCast, BitVec.ofInt_natCast, IntKind.wrap_i64] <;> omega
theorem five_an {a b : Int} (ha : Five a) (hb : Five b) : Five (anI a b) := by
  obtain ⟨m, rfl, hm⟩ := five_nat ha
  obtain ⟨n, rfl, hn⟩ := five_nat hb
  obtain ⟨k, e, -, hk⟩ := anI_nat hm hn
  rw [e]
  exact ⟨by omega, by omega⟩
theorem an_zero {b : Int} (hb : Five b) : anI 0 b = 0 := by
  obtain ⟨n, rfl, hn⟩ := five_nat hb
  obtain ⟨k, e, -, hk⟩ := anI_nat (a := 0) (by omega) hn
  rw [show (0 : Int) = ((0 : Nat) : Int) from rfl, e]
  omega
/-- Lists alike but for one key give the same by every other. -/
theorem bits_keep {gs gs' : List Gr} {R : Int} {T : List UInt8} (hg : gs.Pairwise (fun a b => ltG a b = true)) (hg' : gs'.Pairwise (fun a b => ltG a b = true))
    (h : ∀ x, ¬ (x.role = R ∧ x.table = T) → (x ∈ gs' ↔ x ∈ gs)) (r : Int) (t : List UInt8) (e : ¬ (r = R ∧ t = T)) : bitsG r t gs' = bitsG r t gs := by
  by_cases h0 : bitsG r t gs = 0
  · rw [h0]
    by_cases h1 : bitsG r t gs' = 0
    · exact h1
    · obtain ⟨x, k1, k2, k3, k4⟩ := bits_some h1
      have hx := (h x (by rw [k2, k3]; exact e)).1 k1
      have := bits_mem hg hx
      rw [k2, k3, h0] at this
      rw [← k4, ← this]
  · obtain ⟨x, k1, k2, k3, k4⟩ := bits_some h0
    have hx := (h x (by rw [k2, k3]; exact e)).2 k1
    have := bits_mem hg' hx
    rw [k2, k3] at this
    rw [this, k4]
theorem del_spec {xs ys : List Gr} {z : Gr} (h : (xs ++ z :: ys).Pairwise (fun a b => ltG a b = true)) :
    (xs ++ ys).Pairwise (fun a b => ltG a b = true) ∧ ∀ r t, bitsG r t (xs ++ ys) = if r = z.role ∧ t = z.table then 0 else bitsG r t (xs ++ z :: ys) := by
  have h0 := h
  rw [List.pairwise_append, List.pairwise_cons] at h0
  obtain ⟨p1, ⟨p2, p3⟩, p4⟩ := h0
  have hp : (xs ++ ys).Pairwise (fun a b => ltG a b = true) := List.pairwise_append.2 ⟨p1, p3, fun a ha c hc => p4 a ha c (List.mem_cons_of_mem _ hc)⟩
  refine ⟨hp, fun r t => ?_⟩
  by_cases e : r = z.role ∧ t = z.table
  · rw [if_pos e, e.1, e.2]
    refine bits_none fun x hx hm => ?_
    rcases List.mem_append.1 hx with hx | hx
    · exact ltK_ne (p4 x hx z (List.mem_cons_self ..)) hm
    · exact ltK_ne (p2 x hx) ⟨hm.1.symm, hm.2.symm⟩
  · rw [if_neg e]
    refine bits_keep h hp (fun x hx => ?_) r t e
    rw [List.mem_append, List.mem_append, List.mem_cons]
    refine ⟨fun k => k.elim .inl (fun k => .inr (.inr k)), fun k => ?_⟩
    rcases k with k | k | k
    · exact .inl k
    · exact absurd (by rw [k]; exact ⟨rfl, rfl⟩) hx
    · exact .inr k
theorem split_at {gs : List Gr} {i : Nat} (hi : i < gs.length) : gs = gs.take i ++ atG gs i :: gs.drop (i + 1) := by
  have e : atG gs i = gs[i] := by rw [atG, List.getD_eq_getElem?_getD, List.getElem?_eq_getElem hi]; rfl
  rw [e, ← List.drop_eq_getElem_cons hi, List.take_append_drop]
/-- Take, behind: sorted; who is named has it no more, all others what they had. -/
theorem take_spec {gs gs' : List Gr} {g : Gr} (hs : SortedG gs) (h : TakeR gs g 0 gs') : SortedG gs' ∧ gs'.length ≤ gs.length ∧ ∀ r t, bitsG r t gs' = if r = g.role ∧ t = g.table then anI (bitsG r t gs) g.bits else bitsG r t gs := by
  obtain ⟨hl, hgd, hpw⟩ := (sorted_pw gs).1 hs
  rcases h with ⟨_, h, _⟩ | ⟨hg, -, i, b, hp, h⟩
  · cases h
  rcases h with ⟨rfl, rfl⟩ | ⟨rfl, hz, rfl⟩ | ⟨rfl, hz, rfl⟩
  · refine ⟨hs, Nat.le_refl _, fun r t => ?_⟩
    by_cases e : r = g.role ∧ t = g.table
    · have h0 : bitsG r t gs' = 0 := bits_none fun x hx hm => by
        obtain ⟨j, hj, rfl⟩ := List.getElem_of_mem hx
        refine place_none hp hs j hj ?_
        rw [atG, List.getD_eq_getElem?_getD, List.getElem?_eq_getElem hj]
        exact ⟨hm.1.trans e.1, hm.2.trans e.2⟩
      rw [if_pos e, h0, an_zero (five_of hg)]
    · rw [if_neg e]
  · obtain ⟨hi, hr, ht⟩ := hp.yes rfl
    have hmi : atG gs i ∈ gs := getD_in2 hi
    have hgi := hgd _ hmi
    have hfi := five_an (five_of hgi) (five_of hg)
    have hs' : SortedG (gs.set i ⟨(atG gs i).role, (atG gs i).table, anI (atG gs i).bits g.bits⟩) := by
      refine ⟨by rw [List.length_set]; exact hl, fun j hj => ?_, fun j hj k hk => ?_⟩
      · rw [List.length_set] at hj
        rw [at_set gs i j _ hi]
        split
        · obtain ⟨q1, q2, q3⟩ := good_parts hgi
          unfold goodG
          simp only [Bool.and_eq_true, decide_eq_true_eq]
          exact ⟨q1, q2, by have := hfi.1; omega, hfi.2⟩
        · exact hs.2.1 j hj
      · rw [List.length_set] at hj
        rw [at_set gs i j _ hi, at_set gs i k _ hi]
        have h0 := hs.2.2 j hj k hk
        by_cases e1 : j = i
        · by_cases e2 : k = i
          · omega
          · rw [if_pos e1, if_neg e2]
            rw [e1] at h0
            exact h0
        · by_cases e2 : k = i
          · rw [if_neg e1, if_pos e2]
            rw [e2] at h0
            exact h0
          · rw [if_neg e1, if_neg e2]; exact h0
    refine ⟨hs', by rw [List.length_set]; exact Nat.le_refl _, fun r t => ?_⟩
    have hpw' := ((sorted_pw _).1 hs').2.2
    rw [bits_change hpw hpw' (List.mem_set hi _) (fun x hx => ?_) r t]
    · simp only
      rw [hr, ht]
      by_cases e : r = g.role ∧ t = g.table
      · rw [if_pos e, if_pos e, e.1, e.2]
        have := bits_mem hpw hmi
        rw [hr, ht] at this
        rw [this]
      · rw [if_neg e, if_neg e]
    · simp only at hx
      constructor
      · intro h
        rcases List.mem_or_eq_of_mem_set h with h | h
        · exact h
        · exact absurd (by rw [h]; exact ⟨rfl, rfl⟩) hx
      · intro h
        obtain ⟨j, hj, rfl⟩ := List.getElem_of_mem h
        have hji : j ≠ i := fun e => hx (by
          subst e
          rw [atG, List.getD_eq_getElem?_getD, List.getElem?_eq_getElem hj]
          exact ⟨rfl, rfl⟩)
        have : (gs.set i ⟨(atG gs i).role, (atG gs i).table, anI (atG gs i).bits g.bits⟩)[j]'(by rw [List.length_set]; exact hj) = gs[j] := List.getElem_set_ne (fun e => hji e.symm) _
        rw [← this]
        exact List.getElem_mem _
  · obtain ⟨hi, hr, ht⟩ := hp.yes rfl
    have hmi : atG gs i ∈ gs := getD_in2 hi
    have hsp := split_at hi
    have hpw2 := hpw
    rw [hsp] at hpw2
    obtain ⟨d1, d2⟩ := del_spec hpw2
    refine ⟨(sorted_pw _).2 ⟨by simp; omega, fun x hx => hgd x ?_, d1⟩, by simp; omega, fun r t => ?_⟩
    · rcases List.mem_append.1 hx with hx | hx
      · exact List.mem_of_mem_take hx
      · exact List.mem_of_mem_drop hx
    · rw [d2, ← hsp, hr, ht]
      by_cases e : r = g.role ∧ t = g.table
      · rw [if_pos e, if_pos e, e.1, e.2]
        have := bits_mem hpw hmi
        rw [hr, ht] at this
        rw [this, hz]
      · rw [if_neg e, if_neg e]
end Go.Proofs.YtnhalfdddcjicaaGreat

namespace Go.Proofs.YtnhalfdddcjicaaGreat
open Go.RowKit

def woG (T : List UInt8) (gs : List Gr) : List Gr := gs.filter fun g => !(g.table == T)
theorem wo_len (T : List UInt8) (gs : List Gr) : (woG T gs).length ≤ gs.length := List.length_filter_le _ _
theorem take_next {gs : List Gr} {k : Nat} (h : k < gs.length) : gs.take (k + 1) = gs.take k ++ [atG gs k] := by
  rw [List.take_succ_eq_append_getElem h, atG, List.getD_eq_getElem?_getD, List.getElem?_eq_getElem h]
  rfl
theorem wo_yes {T : List UInt8} {gs : List Gr} {k : Nat} (h : k < gs.length) (e : (atG gs k).table = T) : woG T (gs.take (k + 1)) = woG T (gs.take k) := by
  unfold woG
  rw [take_next h, List.filter_append]
  simpa using e
theorem wo_no {T : List UInt8} {gs : List Gr} {k : Nat} (h : k < gs.length) (e : ¬ (atG gs k).table = T) : woG T (gs.take (k + 1)) = woG T (gs.take k) ++ [atG gs k] := by
  unfold woG
  rw [take_next h, List.filter_append]
  simpa using e

set_option maxRecDepth 100000 in
set_option maxHeartbeats 1600000 in
theorem gwithout_any (A : Option Addr) (n cap : Nat) (gs : List Gr) (T : List UInt8) (w : World) (hr : RowG w A n gs) (hn : n ≤ 1000) :
    Calls Tryz.prog 75 #[.slice A n cap, .string ⟨T.toArray⟩] w fun e w' => ∃ v, e = .returned v ∧ w'.ownsRow w.heap.size 50 3 v (woG T gs).length ((woG T gs).flatMap Gr.cs) ∧ Below w.heap.size w w' := by
  have hgl := hr.1
  go_enter Tryz.func75, Tryz.ntmps75
  go_wp2_with fail
  go_loopw [5, 10] (fun v iv wr => ∃ k : Nat, k ≤ n ∧ iv = .int .i64 k ∧ Hid (wr.ownsRow w.heap.size 50 3 v (woG T (gs.take k)).length ((woG T (gs.take k)).flatMap Gr.cs)) ∧ Below w.heap.size w wr) (fun _ iv _ => n - (intOf iv).toNat)
  case atStart => exact ⟨0, by omega, rfl, Lib.hid (World.ownsRow_nil _ _ _ 3), Below.refl _ _⟩
  case round =>
    obtain ⟨k, hk, rfl, HO, hbr⟩ := hrel
    by_cases hlt : k < n
    · obtain ⟨b, off, rfl, hbl, hcell⟩ := hr.2.2 (by omega)
      obtain ⟨c0, c1, c2⟩ := (hcell k hlt).keep fun i => hbr.cell (p := ⟨b, i, none⟩) hbl
      have hlw : (woG T (gs.take k)).length ≤ 1000 := by
        have := wo_len T (gs.take k)
        rw [List.length_take] at this
        omega
      have KY : Hid ((atG gs k).table = T → woG T (gs.take (k + 1)) = woG T (gs.take k)) := fun e => wo_yes (by omega) e
      have KN : Hid (¬ (atG gs k).table = T → woG T (gs.take (k + 1)) = woG T (gs.take k) ++ [atG gs k]) := fun e => wo_no (by omega) e
      rw [show atG gs k = gs.getD k default from rfl] at KY KN
      clear hcell
      obtain ⟨L', hL'⟩ : ∃ L', woG T (gs.take (k + 1)) = L' := ⟨_, rfl⟩
      rw [hL'] at KY KN
      have HE := Lib.hid hL'
      clear hL'
      generalize woG T (gs.take k) = L at HO KY KN hlw
      generalize gs.getD k default = x at c0 c1 c2 KY KN
      obtain ⟨ro, tb, bi⟩ := x
      simp only at c0 c1 c2 KY KN
      have hb0 := below_box wr (.cells #[.int .i64 ro, .string ⟨tb.toArray⟩, .int .i64 bi] 50)
      have hb3 := below_in hbr hb0
      have aX := At.fresh wr 50 #[.int .i64 ro, .string ⟨tb.toArray⟩, .int .i64 bi]
      have hox := World.ownsRow.alloc HO.out (.cells #[.int .i64 ro, .string ⟨tb.toArray⟩, .int .i64 bi] 50)
      by_cases e : tb = T
      · have e2 : (tb == T) = true := by simp [e]
        have HL := Lib.hid (KY.out e)
        have HOX := Lib.hid hox
        clear KY KN hox HO
        subst e
        go_wp2_with fail
        refine ⟨⟨k + 1, by omega, by go_num, ?_, hb3⟩, by simp [intOf]; omega⟩
        rw [HE.out, HL.out]
        exact HOX
      · have e2 : (tb == T) = false := by simp [e]
        have HL := Lib.hid (KN.out e)
        have hle := hb3.size
        clear KY KN
        go_wp2_with (at_builtin; (refine wp_append1 rfl (.tmp 18) (.tmp 20) 23 rfl 50 3 32 _ Tryz.underlying23 info_grant rfl (by omega) hox #[.int .i64 ro, .string ⟨tb.toArray⟩, .int .i64 bi] 50 rfl rfl (World.size_alloc _ _) rfl ?c1 (by omega) (by omega) hle ?_))
        case c1 => exact ⟨rfl, rfl, rfl⟩
        intro g cap2 w5 ho5 hg5 hlt5
        have hb5 := hb3.grown hg5.grown hle (fun k hk => (World.ownsRow.lt hox k hk).1)
        have HO5 := Lib.hid ho5
        clear ho5 hg5 hox HO aX hb0 hb3 hle
        go_wp2_with fail
        refine ⟨⟨k + 1, by omega, by go_num, ?_, hb5⟩, by simp [intOf]; omega⟩
        rw [HE.out, HL.out, List.flatMap_append, List.length_append]
        exact HO5
    · obtain rfl : k = n := by omega
      rw [List.take_of_length_le (by omega)] at HO
      go_wp2_with fail
      go_ret
      exact ⟨_, rfl, HO.out, hbr⟩
end Go.Proofs.YtnhalfdddcjicaaGreat

namespace Go.Proofs.YtnhalfdddcjicaaGreat

theorem hasG_bits {gs : List Gr} (hs : SortedG gs) (r : Int) (t : List UInt8) (x : Int) : hasG gs r t x ↔ bitsG r t gs ≠ 0 ∧ andI (bitsG r t gs) x = x := by
  obtain ⟨-, hgd, hpw⟩ := (sorted_pw gs).1 hs
  constructor
  · rintro ⟨j, hj, ⟨h1, h2⟩, h3⟩
    have hm : atG gs j ∈ gs := getD_in2 hj
    have hb := bits_mem hpw hm
    rw [h1, h2] at hb
    have hp := (good_parts (hgd _ hm)).2.2.1
    rw [hb]
    exact ⟨by omega, h3⟩
  · rintro ⟨h0, h1⟩
    obtain ⟨y, hy, k1, k2, k3⟩ := bits_some h0
    obtain ⟨j, hj, rfl⟩ := List.getElem_of_mem hy
    have e : atG gs j = gs[j] := by rw [atG, List.getD_eq_getElem?_getD, List.getElem?_eq_getElem hj]; rfl
    exact ⟨j, hj, by rw [e]; exact ⟨k1, k2⟩, by rw [e, k3]; exact h1⟩
theorem and_or {a b : Int} (ha : Five a) (hb : Five b) : andI (orI a b) b = b := by
  obtain ⟨m, rfl, hm⟩ := five_nat ha
  obtain ⟨n, rfl, hn⟩ := five_nat hb
  rw [orI_nat hm hn]
  show IntKind.i64.wrap ((BitVec.ofInt 64 ((m ||| n : Nat) : Int) &&& BitVec.ofInt 64 (n : Int)).toNat : Int) = _
  rw [BitVec.ofInt_natCast, BitVec.ofInt_natCast]
  have e : BitVec.ofNat 64 (m ||| n) &&& BitVec.ofNat 64 n = BitVec.ofNat 64 n := by
    rw [BitVec.ofNat_or]
    apply BitVec.eq_of_getLsbD_eq
    intro i hi
    simp only [BitVec.getLsbD_and, BitVec.getLsbD_or]
    cases (BitVec.ofNat 64 m).getLsbD i <;> cases (BitVec.ofNat 64 n).getLsbD i <;> rfl
  rw [e, BitVec.toNat_ofNat, Nat.mod_eq_of_lt (by omega), IntKind.wrap_i64] <;> omega
theorem and_an {a b : Int} (ha : Five a) (hb : Five b) : andI (anI a b) b = 0 := by
  obtain ⟨m, rfl, hm⟩ := five_nat ha
  obtain ⟨n, rfl, hn⟩ := five_nat hb
  obtain ⟨k, e, hk, -⟩ := anI_nat hm hn
  rw [e]
  show IntKind.i64.wrap ((BitVec.ofInt 64 (k : Int) &&& BitVec.ofInt 64 (n : Int)).toNat : Int) = _
  rw [BitVec.ofInt_natCast, BitVec.ofInt_natCast, hk, BitVec.ofNat_toNat, BitVec.setWidth_eq]
  have e : BitVec.ofNat 64 m &&& ~~~ BitVec.ofNat 64 n &&& BitVec.ofNat 64 n = 0#64 := by
    apply BitVec.eq_of_getLsbD_eq
    intro i hi
    simp only [BitVec.getLsbD_and, BitVec.getLsbD_not, BitVec.getLsbD_zero]
    cases (BitVec.ofNat 64 m).getLsbD i <;> cases (BitVec.ofNat 64 n).getLsbD i <;> simp
  rw [e]
  rfl
/-- A schema with other grants. -/
def Sc.give (s : Sc) (A : Option Addr) (n c : Nat) (gs : List Gr) : Sc := { s with gA := A, gn := n, gcap := c, grants := gs }
theorem give_in {w : World} {s : Sc} (h : InS w s) {A : Option Addr} {n : Nat} (c : Nat) {gs : List Gr} (hr : RowG w A n gs) (hn : n ≤ maxLen) : InS w (s.give A n c gs) := ⟨h.ver, h.tmax, hn, h.tabs, hr⟩
section
variable {s s1 s2 : Sc} {g : Gr}
theorem give_may (ht : ∀ t, tabAt s1 t = tabAt s t) (hs : SortedG s.grants) (hs1 : SortedG s1.grants) (hg : goodG g = true) (hf : tabAt s g.table ≠ none)
    (h1 : ∀ r t, bitsG r t s1.grants = if r = g.role ∧ t = g.table then orI (bitsG r t s.grants) g.bits else bitsG r t s.grants) : MayP s1 g.role g.table g.bits := by
  obtain ⟨q1, q2, q3⟩ := good_parts hg
  have hfv := bits_five ((sorted_pw _).1 hs).2.1 g.role g.table
  refine ⟨by rw [ht]; exact hf, ⟨by omega, q1.2⟩, .inr ((hasG_bits hs1 _ _ _).2 ?_)⟩
  rw [h1, if_pos ⟨rfl, rfl⟩]
  have := or_pos hfv (five_of hg) q3.1
  exact ⟨by omega, and_or hfv (five_of hg)⟩
theorem taken_may (ho : ∀ r t, ownsS s2 r t = ownsS s r t) (hs1 : SortedG s1.grants) (hs2 : SortedG s2.grants) (hg : goodG g = true)
    (h2 : ∀ r t, bitsG r t s2.grants = if r = g.role ∧ t = g.table then anI (bitsG r t s1.grants) g.bits else bitsG r t s1.grants) : MayP s2 g.role g.table g.bits ↔ ownsS s g.role g.table = true := by
  have hfv := bits_five ((sorted_pw _).1 hs1).2.1 g.role g.table
  obtain ⟨q1, q2, q3⟩ := good_parts hg
  constructor
  · rintro ⟨-, -, h | h⟩
    · rw [← ho]; exact h
    · obtain ⟨-, h0⟩ := (hasG_bits hs2 _ _ _).1 h
      rw [h2, if_pos ⟨rfl, rfl⟩, and_an hfv (five_of hg)] at h0
      omega
  · intro h
    exact owns_may (by rw [ho]; exact h) _
theorem other_may (ht : ∀ t, tabAt s1 t = tabAt s t) (ho : ∀ r t, ownsS s1 r t = ownsS s r t) (hs : SortedG s.grants) (hs1 : SortedG s1.grants) {r : Int} {t : List UInt8} (hb : bitsG r t s1.grants = bitsG r t s.grants) (x : Int) : MayP s1 r t x ↔ MayP s r t x := by
  unfold MayP
  rw [ht, ho, hasG_bits hs, hasG_bits hs1, hb]
end
end Go.Proofs.YtnhalfdddcjicaaGreat
