/- Plain mathematics of Put: what a role has of a table behind it; sorted lists that give the same are one. -/
/- The laws' function great. -/
/- Put's results as rows; the order of two grants plays no part. -/
import Derived.Test.YtnhalfdddcjicaaGreatQJaw
import Derived.Laws.BitsLemmas
import Derived.Test.YtnhalfdddcjicaaGreatQJam
namespace Go.Proofs.YtnhalfdddcjicaaGreat

theorem orI_nat {a b : Nat} (ha : a < 32) (hb : b < 32) : orI (a : Int) (b : Int) = ((a ||| b : Nat) : Int) := by
  have hx : a ||| b < 2 ^ 5 := Nat.or_lt_two_pow (by omega) (by omega)
  have h1 : (BitVec.ofInt 64 (a : Int)).toNat = a := by
    rw [BitVec.ofInt_natCast, BitVec.toNat_ofNat]; exact Nat.mod_eq_of_lt (by omega)
  have h2 : (BitVec.ofInt 64 (b : Int)).toNat = b := by
    rw [BitVec.ofInt_natCast, BitVec.toNat_ofNat]; exact Nat.mod_eq_of_lt (by omega)
  show IntKind.i64.wrap ((BitVec.ofInt 64 (a : Int) ||| BitVec.ofInt 64 (b : Int)).toNat : Int) = _
  rw [BitVec.toNat_or, h1, h2, IntKind.wrap_i64] <;> omega
/-- Five bits. -/
def Five (a : Int) : Prop := 0 ≤ a ∧ a ≤ 31
theorem five_nat {a : Int} (h : Five a) : ∃ n : Nat, a = n ∧ n < 32 := ⟨a.toNat, by have := h.1; omega, by have := h.2; omega⟩
theorem five_or {a b : Int} (ha : Five a) (hb : Five b) : Five (orI a b) := by
  obtain ⟨m, rfl, hm⟩ := five_nat ha
  obtain ⟨n, rfl, hn⟩ := five_nat hb
  rw [orI_nat hm hn]
  have hx : m ||| n < 2 ^ 5 := Nat.or_lt_two_pow (by omega) (by omega)
  exact ⟨by omega, by omega⟩
theorem or_pos {a b : Int} (ha : Five a) (hb : Five b) (h1 : 1 ≤ b) : 1 ≤ orI a b := by
  obtain ⟨m, rfl, hm⟩ := five_nat ha
  obtain ⟨n, rfl, hn⟩ := five_nat hb
  rw [orI_nat hm hn]
  have : n ≤ m ||| n := Nat.right_le_or
  omega
theorem or_zero {b : Int} (hb : Five b) : orI 0 b = b := by
  obtain ⟨n, rfl, hn⟩ := five_nat hb
  rw [show (0 : Int) = ((0 : Nat) : Int) from rfl, orI_nat (by omega) hn]
  simp
theorem or_swap {p a b : Int} (hp : Five p) (ha : Five a) (hb : Five b) : orI (orI p a) b = orI (orI p b) a := by
  obtain ⟨k, rfl, hk⟩ := five_nat hp
  obtain ⟨m, rfl, hm⟩ := five_nat ha
  obtain ⟨n, rfl, hn⟩ := five_nat hb
  have h1 : k ||| m < 2 ^ 5 := Nat.or_lt_two_pow (by omega) (by omega)
  have h2 : k ||| n < 2 ^ 5 := Nat.or_lt_two_pow (by omega) (by omega)
  rw [orI_nat hk hm, orI_nat hk hn, orI_nat (by omega) hn, orI_nat (by omega) hm, Nat.or_assoc, Nat.or_comm m n, ← Nat.or_assoc]
theorem or_twice {p a : Int} (hp : Five p) (ha : Five a) : orI (orI p a) a = orI p a := by
  obtain ⟨k, rfl, hk⟩ := five_nat hp
  obtain ⟨m, rfl, hm⟩ := five_nat ha
  have h1 : k ||| m < 2 ^ 5 := Nat.or_lt_two_pow (by omega) (by omega)
  rw [orI_nat hk hm, orI_nat (by omega) hm, Nat.or_assoc, Nat.or_self]
theorem good_parts {g : Gr} (h : goodG g = true) : (1 ≤ g.role ∧ g.role ≤ 7) ∧ nameN g.table = true ∧ 1 ≤ g.bits ∧ g.bits ≤ 31 := by
  unfold goodG at h
  simp only [Bool.and_eq_true, decide_eq_true_eq] at h
  exact ⟨h.1, h.2.1, h.2.2⟩
theorem five_of {g : Gr} (h : goodG g = true) : Five g.bits := ⟨by have := (good_parts h).2.2.1; omega, (good_parts h).2.2.2⟩

/-- Sorted, as a list's own words. -/
theorem sorted_pw (gs : List Gr) : SortedG gs ↔ gs.length ≤ 64 ∧ (∀ g ∈ gs, goodG g = true) ∧ gs.Pairwise (fun a b => ltG a b = true) := by
  unfold SortedG
  refine and_congr Iff.rfl (and_congr ⟨fun h g hg => ?_, fun h j hj => h _ (getD_in2 hj)⟩ ?_)
  · obtain ⟨j, hj, rfl⟩ := List.getElem_of_mem hg
    have := h j hj
    rwa [atG, List.getD_eq_getElem?_getD, List.getElem?_eq_getElem hj] at this
  · rw [List.pairwise_iff_getElem]
    refine ⟨fun h i j hi hj hij => ?_, fun h j hj i hi => ?_⟩
    · have := h j hj i hij
      rwa [atG, atG, List.getD_eq_getElem?_getD, List.getD_eq_getElem?_getD, List.getElem?_eq_getElem hi, List.getElem?_eq_getElem hj] at this
    · rw [atG, atG, List.getD_eq_getElem?_getD, List.getD_eq_getElem?_getD, List.getElem?_eq_getElem (by omega), List.getElem?_eq_getElem hj]
      exact h i j (by omega) hj hi
theorem bits_mem : ∀ {gs : List Gr} {g : Gr}, gs.Pairwise (fun a b => ltG a b = true) → g ∈ gs → bitsG g.role g.table gs = g.bits
  | [], _, _, h => by cases h
  | a :: l, g, hp, h => by
    rw [List.pairwise_cons] at hp
    rw [bitsG]
    rcases List.mem_cons.1 h with rfl | h
    · rw [if_pos ⟨rfl, rfl⟩]
    · rw [if_neg (ltK_ne (hp.1 g h))]
      exact bits_mem hp.2 h
theorem bits_some {r : Int} {t : List UInt8} : ∀ {gs : List Gr}, bitsG r t gs ≠ 0 → ∃ g ∈ gs, g.role = r ∧ g.table = t ∧ g.bits = bitsG r t gs
  | [], h => absurd rfl h
  | a :: l, h => by
    rw [bitsG] at h ⊢
    by_cases e : a.role = r ∧ a.table = t
    · rw [if_pos e] at h ⊢
      exact ⟨a, List.mem_cons_self .., e.1, e.2, rfl⟩
    · rw [if_neg e] at h ⊢
      obtain ⟨g, h1, h2⟩ := bits_some h
      exact ⟨g, List.mem_cons_of_mem _ h1, h2⟩
theorem bits_none {r : Int} {t : List UInt8} : ∀ {gs : List Gr}, (∀ g ∈ gs, ¬ (g.role = r ∧ g.table = t)) → bitsG r t gs = 0
  | [], _ => rfl
  | a :: l, h => by
    rw [bitsG, if_neg (h a (List.mem_cons_self ..))]
    exact bits_none fun g hg => h g (List.mem_cons_of_mem _ hg)
theorem bits_five {gs : List Gr} (h : ∀ g ∈ gs, goodG g = true) (r : Int) (t : List UInt8) : Five (bitsG r t gs) := by
  by_cases h0 : bitsG r t gs = 0
  · rw [h0]; exact ⟨by omega, by omega⟩
  · obtain ⟨g, h1, _, _, h4⟩ := bits_some h0
    rw [← h4]; exact five_of (h g h1)
/-- Two sorted lists of the same members are one. -/
theorem pw_ext : ∀ {xs ys : List Gr}, xs.Pairwise (fun a b => ltG a b = true) → ys.Pairwise (fun a b => ltG a b = true) → (∀ g, g ∈ xs ↔ g ∈ ys) → xs = ys
  | [], [], _, _, _ => rfl
  | [], b :: ys, _, _, h => absurd ((h b).2 (List.mem_cons_self ..)) (by simp)
  | a :: xs, [], _, _, h => absurd ((h a).1 (List.mem_cons_self ..)) (by simp)
  | a :: xs, b :: ys, hx, hy, h => by
    rw [List.pairwise_cons] at hx hy
    have irr : ∀ g : Gr, ¬ ltG g g = true := fun g => by unfold ltG; rw [ltK_irr]; simp
    have hab : a = b := by
      rcases List.mem_cons.1 ((h a).1 (List.mem_cons_self ..)) with e | e
      · exact e
      · rcases List.mem_cons.1 ((h b).2 (List.mem_cons_self ..)) with e2 | e2
        · exact e2.symm
        · have h1 := hy.1 a e
          have h2 := hx.1 b e2
          unfold ltG at h1 h2
          rw [ltK_asym h1] at h2; cases h2
    subst hab
    rw [pw_ext hx.2 hy.2 fun g => ⟨fun hg => ?_, fun hg => ?_⟩]
    · rcases List.mem_cons.1 ((h g).1 (List.mem_cons_of_mem _ hg)) with rfl | e
      · exact absurd (hx.1 g hg) (irr g)
      · exact e
    · rcases List.mem_cons.1 ((h g).2 (List.mem_cons_of_mem _ hg)) with rfl | e
      · exact absurd (hy.1 g hg) (irr g)
      · exact e
theorem sorted_ext {xs ys : List Gr} (hx : SortedG xs) (hy : SortedG ys) (h : ∀ r t, bitsG r t xs = bitsG r t ys) : xs = ys := by
  obtain ⟨-, gx, px⟩ := (sorted_pw xs).1 hx
  obtain ⟨-, gy, py⟩ := (sorted_pw ys).1 hy
  have half : ∀ {us vs : List Gr}, (∀ g ∈ us, goodG g = true) → us.Pairwise (fun a b => ltG a b = true) → (∀ r t, bitsG r t us = bitsG r t vs) → ∀ g ∈ us, g ∈ vs := fun {us vs} gu pu hh g hg => by
    have h1 := bits_mem pu hg
    have h2 := (good_parts (gu g hg)).2.2.1
    rw [hh] at h1
    obtain ⟨g', k1, k2, k3, k4⟩ := bits_some (show bitsG g.role g.table vs ≠ 0 by omega)
    have : g = g' := by
      obtain ⟨a, b, c⟩ := g
      obtain ⟨a', b', c'⟩ := g'
      simp only at k2 k3 k4 h1
      rw [k2, k3, k4, h1]
    rw [this]; exact k1
  exact pw_ext px py fun g => ⟨half gx px h g, half gy py (fun r t => (h r t).symm) g⟩
/-- What a list's change by one key does to all that it gives. -/
theorem bits_change {gs gs' : List Gr} {g : Gr} (hg : gs.Pairwise (fun a b => ltG a b = true)) (hg' : gs'.Pairwise (fun a b => ltG a b = true)) (hm : g ∈ gs')
    (h : ∀ x, ¬ (x.role = g.role ∧ x.table = g.table) → (x ∈ gs' ↔ x ∈ gs)) (r : Int) (t : List UInt8) : bitsG r t gs' = if r = g.role ∧ t = g.table then g.bits else bitsG r t gs := by
  by_cases e : r = g.role ∧ t = g.table
  · rw [if_pos e, e.1, e.2]
    exact bits_mem hg' hm
  · rw [if_neg e]
    by_cases h0 : bitsG r t gs = 0
    · rw [h0]
      by_cases h1 : bitsG r t gs' = 0
      · exact h1
      · obtain ⟨x, k1, k2, k3, k4⟩ := bits_some h1
        have hx := (h x (by rw [k2, k3]; exact e)).1 k1
        have := bits_mem hg hx
        rw [k2, k3, h0] at this
        rw [← k4, ← this]
    · obtain ⟨x, k1, k2, k3, k4⟩ := bits_some h0
      have hx := (h x (by rw [k2, k3]; exact e)).2 k1
      have := bits_mem hg' hx
      rw [k2, k3] at this
      rw [this, k4]
theorem at_set (gs : List Gr) (i j : Nat) (x : Gr) (hi : i < gs.length) : atG (gs.set i x) j = if j = i then x else atG gs j := by
  unfold atG
  simp only [List.getD_eq_getElem?_getD, List.getElem?_set]
  by_cases e : j = i
  · subst e; rw [if_pos rfl, if_pos rfl, if_pos hi]; rfl
  · rw [if_neg (fun h => e h.symm), if_neg e]
/-- Put, behind: sorted; who is named has it besides, all others what they had. -/
theorem put_spec {gs gs' : List Gr} {g : Gr} (hs : SortedG gs) (h : PutR gs g 0 gs') : SortedG gs' ∧ ∀ r t, bitsG r t gs' = if r = g.role ∧ t = g.table then orI (bitsG r t gs) g.bits else bitsG r t gs := by
  obtain ⟨hl, hgd, hpw⟩ := (sorted_pw gs).1 hs
  rcases h with ⟨_, h, _⟩ | ⟨hg, i, b, hp, h⟩
  · cases h
  rcases h with ⟨_, _, h, _⟩ | ⟨rfl, hlt, _, rfl⟩ | ⟨rfl, _, rfl⟩
  · cases h
  · have hnone := place_none hp hs
    have hpw' : (gs.take i ++ g :: gs.drop i).Pairwise (fun a b => ltG a b = true) := by
      have hsplit := hpw
      rw [← List.take_append_drop i gs, List.pairwise_append] at hsplit
      obtain ⟨p1, p2, p3⟩ := hsplit
      rw [List.pairwise_append, List.pairwise_cons]
      refine ⟨p1, ⟨fun a ha => ?_, p2⟩, fun a ha c hc => ?_⟩
      · obtain ⟨j, hj, rfl⟩ := List.getElem_of_mem ha
        rw [List.length_drop] at hj
        rw [List.getElem_drop]
        have hij : i + j < gs.length := by omega
        have e : gs[i + j] = atG gs (i + j) := by rw [atG, List.getD_eq_getElem?_getD, List.getElem?_eq_getElem hij]; rfl
        rw [e]
        have h1 : ltG g (atG gs i) = true := by
          have hh := hp.high (by omega)
          have hn := hnone i (by omega)
          unfold ltG
          cases hc : ltK g.role g.table (atG gs i).role (atG gs i).table with
          | true => rfl
          | false => exact absurd (ltK_tri hh hc) hn
        by_cases hj0 : j = 0
        · rw [hj0]; exact h1
        · exact ltK_trans h1 (hs.2.2 (i + j) hij i (by omega))
      · have hal : ltG a g = true := by
          obtain ⟨j, hj, rfl⟩ := List.getElem_of_mem ha
          rw [List.length_take] at hj
          rw [List.getElem_take]
          have e : gs[j] = atG gs j := by rw [atG, List.getD_eq_getElem?_getD, List.getElem?_eq_getElem (by omega)]; rfl
          rw [e]
          have hlow := hp.low (by omega)
          have hle := hp.le
          by_cases hj1 : j = i - 1
          · rw [hj1]; exact hlow
          · exact ltK_trans (hs.2.2 (i - 1) (by omega) j (by omega)) hlow
        rcases List.mem_cons.1 hc with rfl | hc
        · exact hal
        · exact p3 a ha c hc
    have hmem : ∀ x, x ∈ gs.take i ++ g :: gs.drop i ↔ x = g ∨ x ∈ gs := fun x => by
      rw [List.mem_append, List.mem_cons]
      constructor
      · rintro (h | h | h)
        · exact .inr (List.mem_of_mem_take h)
        · exact .inl h
        · exact .inr (List.mem_of_mem_drop h)
      · rintro (h | h)
        · exact .inr (.inl h)
        · rw [← List.take_append_drop i gs, List.mem_append] at h
          rcases h with h | h
          · exact .inl h
          · exact .inr (.inr h)
    refine ⟨(sorted_pw _).2 ⟨by have := hp.le; simp; omega, fun x hx => ?_, hpw'⟩, fun r t => ?_⟩
    · rcases (hmem x).1 hx with rfl | hx
      · exact hg
      · exact hgd x hx
    · rw [bits_change hpw hpw' ((hmem g).2 (.inl rfl)) (fun x hx => by
        rw [hmem]
        exact ⟨fun h => h.resolve_left (fun e => hx (by rw [e]; exact ⟨rfl, rfl⟩)), .inr⟩) r t]
      by_cases e : r = g.role ∧ t = g.table
      · rw [if_pos e, if_pos e]
        have h0 : bitsG r t gs = 0 := bits_none fun x hx hm => by
          obtain ⟨j, hj, rfl⟩ := List.getElem_of_mem hx
          refine hnone j hj ?_
          rw [atG, List.getD_eq_getElem?_getD, List.getElem?_eq_getElem hj]
          exact ⟨hm.1.trans e.1, hm.2.trans e.2⟩
        rw [h0, or_zero (five_of hg)]
      · rw [if_neg e, if_neg e]
  · obtain ⟨hi, hr, ht⟩ := hp.yes rfl
    have hmi : atG gs i ∈ gs := getD_in2 hi
    have hgi := hgd _ hmi
    have hfi := five_or (five_of hgi) (five_of hg)
    have hps := or_pos (five_of hgi) (five_of hg) (good_parts hg).2.2.1
    have hs' : SortedG (gs.set i ⟨(atG gs i).role, (atG gs i).table, orI (atG gs i).bits g.bits⟩) := by
      refine ⟨by rw [List.length_set]; exact hl, fun j hj => ?_, fun j hj k hk => ?_⟩
      · rw [List.length_set] at hj
        rw [at_set gs i j _ hi]
        split
        · obtain ⟨q1, q2, q3⟩ := good_parts hgi
          unfold goodG
          simp only [Bool.and_eq_true, decide_eq_true_eq]
          exact ⟨q1, q2, hps, hfi.2⟩
        · exact hs.2.1 j hj
      · rw [List.length_set] at hj
        rw [at_set gs i j _ hi, at_set gs i k _ hi]
        have h0 := hs.2.2 j hj k hk
        by_cases e1 : j = i
        · by_cases e2 : k = i
          · omega
          · rw [if_pos e1, if_neg e2]
            rw [e1] at h0
            exact h0
        · by_cases e2 : k = i
          · rw [if_neg e1, if_pos e2]
            rw [e2] at h0
            exact h0
          · rw [if_neg e1, if_neg e2]; exact h0
    refine ⟨hs', fun r t => ?_⟩
    have hpw' := ((sorted_pw _).1 hs').2.2
    rw [bits_change hpw hpw' (List.mem_set hi _) (fun x hx => ?_) r t]
    · simp only
      rw [hr, ht]
      by_cases e : r = g.role ∧ t = g.table
      · rw [if_pos e, if_pos e, e.1, e.2]
        have := bits_mem hpw hmi
        rw [hr, ht] at this
        rw [this]
      · rw [if_neg e, if_neg e]
    · simp only at hx
      constructor
      · intro h
        rcases List.mem_or_eq_of_mem_set h with h | h
        · exact h
        · exact absurd (by rw [h]; exact ⟨rfl, rfl⟩) hx
      · intro h
        obtain ⟨j, hj, rfl⟩ := List.getElem_of_mem h
        have hji : j ≠ i := fun e => hx (by
          subst e
          rw [atG, List.getD_eq_getElem?_getD, List.getElem?_eq_getElem hj]
          exact ⟨rfl, rfl⟩)
        have : (gs.set i ⟨(atG gs i).role, (atG gs i).table, orI (atG gs i).bits g.bits⟩)[j]'(by rw [List.length_set]; exact hj) = gs[j] := List.getElem_set_ne (fun e => hji e.symm) _
        rw [← this]
        exact List.getElem_mem _
end Go.Proofs.YtnhalfdddcjicaaGreat

namespace Go.Proofs.YtnhalfdddcjicaaGreat
open Go.RowKit

end Go.Proofs.YtnhalfdddcjicaaGreat

namespace Go.Proofs.YtnhalfdddcjicaaGreat
open Go.RowKit

theorem ok_of_good {g : Gr} (h : goodG g = true) : g.Ok := by
  obtain ⟨h1, h2, h3⟩ := good_parts h
  have hl : g.table.length ≤ 12 := by
    by_cases e : 12 < g.table.length
    · rw [name_long e] at h2; cases h2
    · omega
  exact ⟨⟨by omega, by omega⟩, ⟨by omega, by omega⟩, by unfold maxLen; omega⟩
theorem own_rowG {w : World} {base : Nat} {v : Value} {gs : List Gr} (h : w.ownsRow base 50 3 v gs.length (gs.flatMap Gr.cs)) (hok : ∀ g ∈ gs, g.Ok) : ∃ A c, v = .slice A gs.length c ∧ RowG w A gs.length gs ∧ gs.length ≤ c := by
  rcases h.2 with ⟨rfl, h0⟩ | ⟨g, cap, cur, rfl, hbg, hg, hnc, hcm, hcs, htk⟩
  · rw [h0]
    have : gs = [] := List.eq_nil_of_length_eq_zero h0
    subst this
    exact ⟨none, 0, rfl, ⟨rfl, fun _ h => (by cases h), fun h => absurd h (by omega)⟩, Nat.le_refl _⟩
  · refine ⟨_, cap, rfl, ⟨rfl, hok, fun hn => ⟨g, 0, rfl, (Array.getElem?_eq_some_iff.1 hg).1, fun j hj => ?_⟩⟩, hnc⟩
    have hA : At w g 50 cur := hg
    have hc : ∀ i, i < 3 → w.cell? ⟨g, 0 + j * 3 + i, none⟩ = (Gr.cs (gs.getD j default))[i]? := fun i hi => by
      rw [Nat.zero_add, At.cell hA, ← flat_at Gr.cs 3 default (fun _ => rfl) gs j hj i hi, ← htk, List.getElem?_take, if_pos (by omega)]
      simp
    exact ⟨hc 0 (by omega), hc 1 (by omega), hc 2 (by omega)⟩
theorem put_ok {gs gs' : List Gr} {g : Gr} {er : Int} (h : PutR gs g er gs') (hg : goodG g = true) (hl : gs.length < 64) : er = 0 ∧ gs'.length ≤ gs.length + 1 := by
  rcases h with ⟨h, _⟩ | ⟨_, i, b, hp, h⟩
  · rw [hg] at h; cases h
  rcases h with ⟨_, h, _⟩ | ⟨_, _, h, rfl⟩ | ⟨_, h, rfl⟩
  · omega
  · exact ⟨h, by simp; omega⟩
  · exact ⟨h, by rw [List.length_set]; omega⟩
/-- What a good Put leaves, as a row. -/
def PutOk (gs : List Gr) (g : Gr) (B : Nat) (e : Ending) (w' : World) : Prop := ∃ A c gs', e = .returned (.tuple #[.slice A gs'.length c, .int .i64 0]) ∧ RowG w' A gs'.length gs' ∧ gs'.length ≤ c ∧ SortedG gs' ∧ gs'.length ≤ gs.length + 1 ∧
  (∀ r t, bitsG r t gs' = if r = g.role ∧ t = g.table then orI (bitsG r t gs) g.bits else bitsG r t gs) ∧ (∀ k, A.map (·.block) = some k → B ≤ k)
theorem putOk_any (A : Option Addr) (n cap : Nat) (gs : List Gr) (g : Gr) (w : World) (hr : RowG w A n gs) (hs : SortedG gs) (hg : goodG g = true) (hn : n < 64) :
    Calls Tryz.prog 44 #[.slice A n cap, g.val] w fun e w' => PutOk gs g w.heap.size e w' ∧ Below w.heap.size w w' := by
  have hgl := hr.1
  refine (gput_any A n cap gs g w hr (by omega) (ok_of_good hg)).mono ?_
  rintro e w' ⟨⟨v, er, gs', rfl, ho, hR⟩, hb⟩
  obtain ⟨rfl, hle⟩ := put_ok hR hg (by omega)
  obtain ⟨hs', hbits⟩ := put_spec hs hR
  obtain ⟨A', c, rfl, hrow, hc⟩ := own_rowG ho fun x hx => ok_of_good (((sorted_pw _).1 hs').2.1 x hx)
  refine ⟨⟨A', c, gs', rfl, hrow, hc, hs', hle, hbits, fun k hk => ?_⟩, hb⟩
  cases A' with
  | none => cases hk
  | some a => exact (ho.lt k (by simpa [Value.ownBlock] using hk)).1
theorem put_swap {gs x1 x2 y1 y2 : List Gr} {a b : Gr} (hs : SortedG gs) (ga : goodG a = true) (gb : goodG b = true) (sx : SortedG x2) (sy : SortedG y2)
    (h1 : ∀ r t, bitsG r t x1 = if r = a.role ∧ t = a.table then orI (bitsG r t gs) a.bits else bitsG r t gs) (h2 : ∀ r t, bitsG r t x2 = if r = b.role ∧ t = b.table then orI (bitsG r t x1) b.bits else bitsG r t x1)
    (h3 : ∀ r t, bitsG r t y1 = if r = b.role ∧ t = b.table then orI (bitsG r t gs) b.bits else bitsG r t gs) (h4 : ∀ r t, bitsG r t y2 = if r = a.role ∧ t = a.table then orI (bitsG r t y1) a.bits else bitsG r t y1) : x2 = y2 := by
  refine sorted_ext sx sy fun r t => ?_
  have hf := bits_five ((sorted_pw _).1 hs).2.1 r t
  rw [h2, h4, h1, h3]
  by_cases ea : r = a.role ∧ t = a.table
  · by_cases eb : r = b.role ∧ t = b.table
    · simp only [if_pos ea, if_pos eb]
      exact or_swap hf (five_of ga) (five_of gb)
    · simp only [if_pos ea, if_neg eb]
  · by_cases eb : r = b.role ∧ t = b.table
    · simp only [if_neg ea, if_pos eb]
    · simp only [if_neg ea, if_neg eb]
theorem put_again {gs x1 x2 z : List Gr} {a b : Gr} (hs : SortedG gs) (ga : goodG a = true) (gb : goodG b = true) (sx : SortedG x2) (sz : SortedG z)
    (h1 : ∀ r t, bitsG r t x1 = if r = a.role ∧ t = a.table then orI (bitsG r t gs) a.bits else bitsG r t gs) (h2 : ∀ r t, bitsG r t x2 = if r = b.role ∧ t = b.table then orI (bitsG r t x1) b.bits else bitsG r t x1)
    (h3 : ∀ r t, bitsG r t z = if r = a.role ∧ t = a.table then orI (bitsG r t x2) a.bits else bitsG r t x2) : x2 = z := by
  refine sorted_ext sx sz fun r t => ?_
  have hf := bits_five ((sorted_pw _).1 hs).2.1 r t
  rw [h3, h2, h1]
  by_cases ea : r = a.role ∧ t = a.table
  · by_cases eb : r = b.role ∧ t = b.table
    · simp only [if_pos ea, if_pos eb]
      rw [or_swap (five_or hf (five_of ga)) (five_of gb) (five_of ga), or_twice hf (five_of ga)]
    · simp only [if_pos ea, if_neg eb]
      rw [or_twice hf (five_of ga)]
  · rw [if_neg ea, if_neg ea]
end Go.Proofs.YtnhalfdddcjicaaGreat
