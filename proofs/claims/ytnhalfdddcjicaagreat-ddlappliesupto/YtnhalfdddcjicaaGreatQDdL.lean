/- The reference's give: its list step by step; its walk. -/
import Derived.Test.YtnhalfdddcjicaaGreatQDdK
namespace Go.Proofs.YtnhalfdddcjicaaGreat
open Go.RowKit
open Go.Op (bytesLess)

theorem at_mem {gs : List Gr} {k : Nat} (h : k < gs.length) : gs[k] = atG gs k := by rw [atG, List.getD_eq_getElem?_getD, List.getElem?_eq_getElem h]; rfl
theorem place_ex (gs : List Gr) (r : Int) (t : List UInt8) : ∃ i b, PlaceG gs r t i b := by
  have hfirst : ∀ n, n ≤ gs.length → ∃ i, i ≤ n ∧ (∀ j, j < i → ltK (atG gs j).role (atG gs j).table r t = true) ∧ (i < n → ltK (atG gs i).role (atG gs i).table r t = false) := fun n => by
    induction n with
    | zero => intro _; exact ⟨0, by omega, fun j h => absurd h (by omega), fun h => absurd h (by omega)⟩
    | succ n ih =>
      intro hn
      obtain ⟨i, h1, h2, h3⟩ := ih (by omega)
      by_cases hi : i < n
      · exact ⟨i, by omega, h2, fun _ => h3 hi⟩
      · obtain rfl : i = n := by omega
        cases hc : ltK (atG gs i).role (atG gs i).table r t with
        | true =>
          refine ⟨i + 1, by omega, fun j hj => ?_, fun h => absurd h (by omega)⟩
          by_cases e : j = i
          · rw [e]; exact hc
          · exact h2 j (by omega)
        | false => exact ⟨i, by omega, h2, fun _ => hc⟩
  obtain ⟨i, h1, h2, h3⟩ := hfirst gs.length (Nat.le_refl _)
  by_cases hm : i < gs.length ∧ (atG gs i).role = r ∧ (atG gs i).table = t
  · exact ⟨i, true, h1, fun _ => hm, fun e => (by cases e), fun h => h2 (i - 1) (by omega), h3⟩
  · exact ⟨i, false, h1, fun e => (by cases e), fun _ hi e => hm ⟨hi, e⟩, fun h => h2 (i - 1) (by omega), h3⟩
/-- Behind k grants. -/
def giL (gs : List Gr) (i j0 : Nat) (mid : List Gr) (k : Nat) : List Gr := if k ≤ j0 then gs.take (min k i) else gs.take i ++ mid ++ (gs.take k).drop j0
def j0G (i : Nat) (b : Bool) : Nat := if b = true then i + 1 else i
def pvF (z : Bool) (j0 k : Nat) : Bool := z || decide (j0 < k)
theorem gi_len {gs mid : List Gr} {i j0 k : Nat} (hm : mid.length ≤ 1) : (giL gs i j0 mid k).length ≤ gs.length * 2 + 1 := by
  unfold giL
  split
  · simp; omega
  · simp; omega
section
variable {gs mid : List Gr} {r : Int} {t : List UInt8} {i k : Nat} {b : Bool} (hs : SortedG gs) (hp : PlaceG gs r t i b)
include hs hp
/-- The grant that is named. -/
theorem gi_hit (hk : k < gs.length) (h1 : (atG gs k).role = r) (h2 : (atG gs k).table = t) : k = i ∧ b = true ∧ giL gs i (j0G i b) mid (k + 1) = giL gs i (j0G i b) mid k := by
  cases b with
  | false => exact absurd ⟨h1, h2⟩ (place_none hp hs k hk)
  | true =>
    obtain ⟨q1, q2, q3⟩ := hp.yes rfl
    have e := place_one hs hk q1 (h1.trans q2.symm) (h2.trans q3.symm)
    refine ⟨e, rfl, ?_⟩
    subst e
    have hj : j0G k true = k + 1 := rfl
    unfold giL
    rw [hj, if_pos (Nat.le_refl _), if_pos (by omega), Nat.min_eq_right (by omega), Nat.min_self]
/-- Before it. -/
theorem gi_low (hk : k < i) : ltK (atG gs k).role (atG gs k).table r t = true ∧ giL gs i (j0G i b) mid (k + 1) = giL gs i (j0G i b) mid k ++ [atG gs k] := by
  have hle := hp.le
  have hj : i ≤ j0G i b := by unfold j0G; split <;> omega
  refine ⟨?_, ?_⟩
  · by_cases e : k = i - 1
    · rw [e]; exact hp.low (by omega)
    · exact ltK_trans (hs.2.2 (i - 1) (by omega) k (by omega)) (hp.low (by omega))
  · unfold giL
    rw [if_pos (by omega), if_pos (by omega), Nat.min_eq_left (by omega), Nat.min_eq_left (by omega)]
    exact take_next (by omega)
/-- Behind it. -/
theorem gi_high (hk : k < gs.length) (hik : i ≤ k) (hn : ¬ ((atG gs k).role = r ∧ (atG gs k).table = t)) : j0G i b ≤ k ∧ ltK r t (atG gs k).role (atG gs k).table = true ∧
    (k = j0G i b → giL gs i (j0G i b) mid (k + 1) = giL gs i (j0G i b) mid k ++ mid ++ [atG gs k]) ∧ (k ≠ j0G i b → giL gs i (j0G i b) mid (k + 1) = giL gs i (j0G i b) mid k ++ [atG gs k]) := by
  have hj : j0G i b ≤ k := by
    cases b with
    | false => exact hik
    | true =>
      have : k ≠ i := fun e => hn (by rw [e]; exact (hp.yes rfl).2)
      show i + 1 ≤ k
      omega
  have hji : i ≤ j0G i b := by unfold j0G; split <;> omega
  have htk : gs.take (k + 1) = gs.take k ++ [atG gs k] := take_next hk
  refine ⟨hj, ?_, fun e => ?_, fun e => ?_⟩
  · have hi : ltK r t (atG gs i).role (atG gs i).table = true ∨ (i < k ∧ ltG (atG gs i) (atG gs k) = true ∧ (atG gs i).role = r ∧ (atG gs i).table = t) := by
      cases b with
      | false =>
        left
        have hh := hp.high (by omega)
        cases hc : ltK r t (atG gs i).role (atG gs i).table with
        | true => rfl
        | false => exact absurd (ltK_tri hh hc) (hp.no rfl (by omega))
      | true =>
        right
        have : k ≠ i := fun e => hn (by rw [e]; exact (hp.yes rfl).2)
        exact ⟨by omega, hs.2.2 k hk i (by omega), (hp.yes rfl).2⟩
    rcases hi with h | ⟨h1, h2, h3, h4⟩
    · by_cases e : k = i
      · rw [e]; exact h
      · exact ltK_trans h (hs.2.2 k hk i (by omega))
    · unfold ltG at h2
      rw [h3, h4] at h2
      exact h2
  · unfold giL
    have hl : (gs.take k).length = k := by simp; omega
    rw [if_neg (by omega), if_pos (by omega), Nat.min_eq_right (by omega), htk, ← e, List.drop_append, hl, Nat.sub_self, List.drop_zero, List.drop_eq_nil_of_le (by omega), List.nil_append]
  · unfold giL
    rw [if_neg (by omega), if_neg (by omega), htk, List.drop_append_of_le_length (by simp; omega)]
    simp only [List.append_assoc]
end
theorem gi_cases {gs mid : List Gr} {r : Int} {t : List UInt8} {i k : Nat} {b : Bool} {z : Bool} {nb : Int} (hs : SortedG gs) (hp : PlaceG gs r t i b) (hk : k < gs.length) (hn : ¬ ((atG gs k).role = r ∧ (atG gs k).table = t)) (hm : mid = if nb = 0 then [] else [⟨r, t, nb⟩]) (hz : (nb == 0) = z) :
    (pvF z (j0G i b) k = true ∧ pvF z (j0G i b) (k + 1) = true ∧ giL gs i (j0G i b) mid (k + 1) = giL gs i (j0G i b) mid k ++ [atG gs k]) ∨
    (pvF z (j0G i b) k = false ∧ pvF z (j0G i b) (k + 1) = false ∧ giL gs i (j0G i b) mid (k + 1) = giL gs i (j0G i b) mid k ++ [atG gs k] ∧ ltK (atG gs k).role (atG gs k).table r t = true) ∨
    (pvF z (j0G i b) k = false ∧ pvF z (j0G i b) (k + 1) = true ∧ giL gs i (j0G i b) mid (k + 1) = giL gs i (j0G i b) mid k ++ [⟨r, t, nb⟩] ++ [atG gs k] ∧ ltK r t (atG gs k).role (atG gs k).table = true) := by
  have hji : i ≤ j0G i b := by unfold j0G; split <;> omega
  by_cases hik : k < i
  · obtain ⟨h1, h2⟩ := gi_low (mid := mid) hs hp hik
    cases z with
    | true => exact .inl ⟨rfl, rfl, h2⟩
    | false => exact .inr (.inl ⟨by unfold pvF; simp; omega, by unfold pvF; simp; omega, h2, h1⟩)
  · obtain ⟨h1, h2, h3, h4⟩ := gi_high (mid := mid) hs hp hk (by omega) hn
    by_cases e : k = j0G i b
    · cases z with
      | true =>
        have hm0 : mid = [] := by rw [hm, if_pos (by simpa using hz)]
        have h5 := h3 e
        rw [hm0] at h5 ⊢
        exact .inl ⟨rfl, rfl, by simpa using h5⟩
      | false =>
        have hm0 : mid = [⟨r, t, nb⟩] := by rw [hm, if_neg (by simpa using hz)]
        exact .inr (.inr ⟨by unfold pvF; simp; omega, by unfold pvF; simp; omega, (h3 e).trans (congrArg (fun m => giL gs i (j0G i b) mid k ++ m ++ [atG gs k]) hm0), h2⟩)
    · exact .inl ⟨by unfold pvF; simp; right; omega, by unfold pvF; simp; right; omega, h4 e⟩
theorem gi_end {gs mid : List Gr} {i : Nat} {b : Bool} (hi : i ≤ gs.length) : (gs.length ≤ j0G i b → giL gs i (j0G i b) mid gs.length ++ mid = gs.take i ++ mid ++ gs.drop (j0G i b)) ∧ (¬ gs.length ≤ j0G i b → giL gs i (j0G i b) mid gs.length = gs.take i ++ mid ++ gs.drop (j0G i b)) := by
  constructor
  · intro h
    unfold giL
    rw [if_pos h, Nat.min_eq_right hi, List.drop_eq_nil_of_le h, List.append_nil]
  · intro h
    unfold giL
    rw [if_neg h, List.take_length]
theorem set_split {gs : List Gr} {i : Nat} (hi : i < gs.length) (x : Gr) : gs.set i x = gs.take i ++ [x] ++ gs.drop (i + 1) := by
  rw [List.set_eq_take_append_cons_drop, if_pos hi]
  simp
/-- What comes of it. -/
theorem give_is {gs : List Gr} {g : Gr} {i : Nat} {b put : Bool} (hs : SortedG gs) (hg : goodG g = true) (hp : PlaceG gs g.role g.table i b) (nb : Int) (hnb : nb = if put = true then orI (bitsG g.role g.table gs) g.bits else anI (bitsG g.role g.table gs) g.bits)
    (h64 : put = true → ¬ (bitsG g.role g.table gs = 0 ∧ 64 ≤ gs.length)) : GiveR put gs g 0 (gs.take i ++ (if nb = 0 then [] else [⟨g.role, g.table, nb⟩]) ++ gs.drop (j0G i b)) := by
  obtain ⟨-, hgd, hpw⟩ := (sorted_pw gs).1 hs
  have hbits : (b = false → bitsG g.role g.table gs = 0) ∧ (b = true → bitsG g.role g.table gs = (atG gs i).bits ∧ 1 ≤ (atG gs i).bits) := by
    constructor
    · rintro rfl
      exact bits_none fun x hx hm => by
        obtain ⟨j, hj, rfl⟩ := List.getElem_of_mem hx
        rw [at_mem hj] at hm
        exact place_none hp hs j hj hm
    · rintro rfl
      obtain ⟨q1, q2, q3⟩ := hp.yes rfl
      have hm : atG gs i ∈ gs := getD_in2 q1
      have := bits_mem hpw hm
      rw [q2, q3] at this
      exact ⟨this, (good_parts (hgd _ hm)).2.2.1⟩
  have h5 := five_of hg
  have hpos := (good_parts hg).2.2.1
  cases put with
  | true =>
    simp only [if_true] at hnb
    refine .inr ⟨hg, i, b, hp, ?_⟩
    cases b with
    | false =>
      have h0 := hbits.1 rfl
      rw [h0, or_zero h5] at hnb
      subst hnb
      refine .inr (.inl ⟨rfl, by have := h64 rfl; omega, rfl, ?_⟩)
      rw [if_neg (by omega)]
      simp [j0G]
    | true =>
      obtain ⟨h0, h1⟩ := hbits.2 rfl
      obtain ⟨q1, q2, q3⟩ := hp.yes rfl
      have hfi : Five (atG gs i).bits := by rw [← h0]; exact bits_five hgd _ _
      rw [h0] at hnb
      have hp1 := or_pos hfi h5 hpos
      refine .inr (.inr ⟨rfl, rfl, ?_⟩)
      rw [if_neg (by rw [hnb]; omega), set_split q1, q2, q3, hnb]
      rfl
  | false =>
    simp only [Bool.false_eq_true, if_false] at hnb
    refine .inr ⟨hg, rfl, i, b, hp, ?_⟩
    cases b with
    | false =>
      have h0 := hbits.1 rfl
      rw [h0, an_zero h5] at hnb
      subst hnb
      refine .inl ⟨rfl, ?_⟩
      simp [j0G]
    | true =>
      obtain ⟨h0, h1⟩ := hbits.2 rfl
      obtain ⟨q1, q2, q3⟩ := hp.yes rfl
      rw [h0] at hnb
      by_cases hz : nb = 0
      · refine .inr (.inr ⟨rfl, by rw [← hnb]; exact hz, ?_⟩)
        rw [if_pos hz]
        simp [j0G]
      · refine .inr (.inl ⟨rfl, by rw [← hnb]; exact hz, ?_⟩)
        rw [if_neg hz, set_split q1, q2, q3, hnb]
        rfl

theorem gr_ok {w : World} {st : St} (h : InSt w st) : st.gr.Ok := ⟨h.role, h.bits, h.table⟩
theorem gi_final {gs mid : List Gr} {r : Int} {t : List UInt8} {i : Nat} {b : Bool} {z : Bool} {nb : Int} (hi : i ≤ gs.length) (hm : mid = if nb = 0 then [] else [⟨r, t, nb⟩]) (hz : (nb == 0) = z) :
    (pvF z (j0G i b) gs.length = true ∧ giL gs i (j0G i b) mid gs.length = gs.take i ++ mid ++ gs.drop (j0G i b)) ∨
    (pvF z (j0G i b) gs.length = false ∧ giL gs i (j0G i b) mid gs.length ++ [⟨r, t, nb⟩] = gs.take i ++ mid ++ gs.drop (j0G i b)) := by
  obtain ⟨h1, h2⟩ := gi_end (mid := mid) (b := b) hi
  by_cases h : gs.length ≤ j0G i b
  · cases z with
    | true =>
      have hm0 : mid = [] := by rw [hm, if_pos (by simpa using hz)]
      have := h1 h
      rw [hm0] at this ⊢
      exact .inl ⟨rfl, by simpa using this⟩
    | false =>
      have hm0 : mid = [⟨r, t, nb⟩] := by rw [hm, if_neg (by simpa using hz)]
      exact .inr ⟨by unfold pvF; simp; omega, (congrArg (fun m => giL gs i (j0G i b) mid gs.length ++ m) hm0).symm.trans (h1 h)⟩
  · exact .inl ⟨by unfold pvF; simp; right; omega, h2 h⟩
theorem pvF_zero (z : Bool) (j0 : Nat) : pvF z j0 0 = z := by unfold pvF; simp
theorem gi_zero (gs mid : List Gr) (i j0 : Nat) : giL gs i j0 mid 0 = [] := by unfold giL; simp
def GvE (put : Bool) (gs : List Gr) (g : Gr) (B : Nat) (e : Ending) (w' : World) : Prop := ∃ v er gs', e = .returned (.tuple #[v, .int .i64 er]) ∧ w'.ownsRow B 50 3 v gs'.length (gs'.flatMap Gr.cs) ∧ GiveR put gs g er gs'

set_option maxRecDepth 100000 in
set_option maxHeartbeats 6400000 in
theorem rgive_any (A : Option Addr) (n cap : Nat) (gs : List Gr) (st : St) (w : World) (put : Bool) (hk : KindG put st.kind) (hr : RowG w A n gs) (hs : SortedG gs) (hst : InSt w st) (hn : n ≤ 64) :
    Calls Tryz.prog 55 #[.slice A n cap, st.val] w fun e w' => GvE put gs st.gr w.heap.size e w' ∧ Below w.heap.size w w' := by
  have HV : Hid (∀ v er gs' w', w'.ownsRow w.heap.size 50 3 v gs'.length (gs'.flatMap Gr.cs) → GiveR put gs st.gr er gs' → GvE put gs st.gr w.heap.size (.returned (.tuple #[v, .int .i64 er])) w') := by
    show ∀ _, _
    exact fun v er gs' w' h1 h2 => ⟨v, er, gs', rfl, h1, h2⟩
  have hgl := hr.1
  have aT := At.fresh w 34 st.cells
  have hbT := below_box w (.cells st.cells 34)
  have aG := At.fresh (w.alloc (.cells st.cells 34)) 50 #[.int .i64 st.role, .string ⟨st.table.toArray⟩, .int .i64 st.bits]
  have aT2 := aT.alloc (.cells #[.int .i64 st.role, .string ⟨st.table.toArray⟩, .int .i64 st.bits] 50)
  have hb2 := hbT.alloc hbT.size (.cells #[.int .i64 st.role, .string ⟨st.table.toArray⟩, .int .i64 st.bits] 50)
  rw [World.size_alloc] at aG
  have hG := fun w1 => rgoodG_any st.gr w1 hst.table
  have hBt := fun w1 (b : Below w.heap.size w w1) => rbits_any A n cap gs st.role st.table w1 (hr.below b) (by unfold maxLen; omega)
  obtain ⟨i, b, hp⟩ := place_ex gs st.role st.table
  obtain ⟨-, e1, -, -, -, -, -, -, -, -, -, -, -, -, -, -, -, e17, e18⟩ := aT.stmt
  have hkc := fun w' (h : At w' w.heap.size 34 st.cells) => h.stmt.c0
  obtain ⟨g0, g1, g2⟩ := aG.tri0
  unfold St.val
  unfold Gr.val at hG
  simp only [St.gr] at hG HV ⊢
  clear hst
  generalize st.cells = cs at *
  generalize st.role = ro at *
  generalize st.table = tb at *
  generalize st.bits = bi at *
  generalize st.kind = kd at *
  cases hgd : goodG ⟨ro, tb, bi⟩ with
  | false =>
    rw [hgd] at hG
    have HX := Lib.hid (fun w' => HV.out (.slice none 0 0) 1 [] w' (World.ownsRow_nil _ _ _ 3) (by
      cases put with
      | true => exact .inl ⟨hgd, rfl, rfl⟩
      | false => exact .inl ⟨hgd, rfl, rfl⟩))
    clear HV hk
    go_enter Tryz.func55, Tryz.ntmps55
    go_wp2_with fail
    refine (hG _).mono ?_
    rintro e w3 ⟨rfl, b3⟩
    have hb3 := below_in hb2 b3
    go_wp2_with fail
    exact bodyPost_ret (v := .tuple #[.slice none 0 0, .int .i64 1]) (by simp [results, Tryz.results55, go_sem]) rfl ⟨HX.out _, hb3⟩
  | true =>
    rw [hgd] at hG
    go_enter Tryz.func55, Tryz.ntmps55
    go_wp2_with fail
    refine (hG _).mono ?_
    rintro e w3 ⟨rfl, b3⟩
    have hb3 := below_in hb2 b3
    have aG3 := aG.below b3 aG.lt
    have aT3 := aT2.below b3 aT2.lt
    have hBc := hBt _ hb3
    clear g0 g1 g2 e1 e17 e18 hG hBt aG aT aT2 hb2 hbT b3
    obtain ⟨g0, g1, g2⟩ := aG3.tri0
    go_wp2_with fail
    refine hBc.mono ?_
    rintro e w4 ⟨rfl, b4⟩
    have hb4 := below_in hb3 b4
    have aG4 := aG3.below b4 aG3.lt
    have aT4 := aT3.below b4 aT3.lt
    have hfg := aG4.unfrozen 2
    clear g0 g1 g2 hBc aG3 aT3 hb3 b4
    have k0 := hkc _ aT4
    have HBITS : Hid (bitsG ro tb gs = bitsG ro tb gs) := rfl
    obtain ⟨h, hh⟩ : ∃ h, bitsG ro tb gs = h := ⟨_, rfl⟩
    rw [hh]
    obtain ⟨g0, g1, g2⟩ := aG4.tri0
    have HGI := Lib.hid (fun put nb h1 h2 => give_is (put := put) (nb := nb) hs hgd hp h1 h2)
    cases put with
    | false =>
      obtain rfl : kd = 9 := hk
      obtain ⟨nb, hnb⟩ : ∃ nb, anI h bi = nb := ⟨_, rfl⟩
      have HFIN := Lib.hid (HGI.out false nb (by rw [hh, hnb]; rfl) (fun e => by cases e))
      have aG5 : At (w4.setCell ⟨w.heap.size + 1, 2, none⟩ (.int .i64 nb)) (w.heap.size + 1) 50 #[.int .i64 ro, .string ⟨tb.toArray⟩, .int .i64 nb] := aG4.put 2 (.int .i64 nb)
      have hb5 := hb4.setCell (p := ⟨w.heap.size + 1, 2, none⟩) (by show w.heap.size ≤ w.heap.size + 1; omega) (.int .i64 nb)
      have hnb2 : Go.bits BinOp.andNot IntKind.i64 h bi = nb := hnb
      have hz4 : w.heap.size + 2 ≤ w4.heap.size := by have := aG4.lt; omega
      have hz5 : (w4.setCell ⟨w.heap.size + 1, 2, none⟩ (.int .i64 nb)).heap.size = w4.heap.size := by simp [World.setCell]
      obtain ⟨z, hz⟩ : ∃ z : Bool, (nb == 0) = z := ⟨_, rfl⟩
      obtain ⟨v0, v1, v2⟩ := aG5.tri0
      clear hnb HGI aT4 aG4 hkc hh hb4
      go_wp2_with fail
      generalize w4.setCell ⟨w.heap.size + 1, 2, none⟩ (.int .i64 nb) = W5 at *
      obtain ⟨mid, hmide⟩ : ∃ mid : List Gr, (if nb = 0 then [] else [⟨ro, tb, nb⟩]) = mid := ⟨_, rfl⟩
      rw [hmide] at HFIN
      obtain ⟨Z, hZ⟩ : ∃ Z, W5.heap.size = Z := ⟨_, rfl⟩
      have hZw : w.heap.size ≤ Z := by omega
      have hmid : mid.length ≤ 1 := by rw [← hmide]; split <;> simp
      have hzI : Hid ((nb == 0) = z) := hz
      have hmI : Hid (mid = if nb = 0 then [] else [⟨ro, tb, nb⟩]) := hmide.symm
      clear hz hmide hnb2 g0 g1 g2 v0 v1 v2 k0
      go_loopw [7, 9, 53] (fun v pv iv wr => ∃ k : Nat, k ≤ n ∧ iv = .int .i64 k ∧ pv = .bool (pvF z (j0G i b) k) ∧ Hid (wr.ownsRow Z 50 3 v (giL gs i (j0G i b) mid k).length ((giL gs i (j0G i b) mid k).flatMap Gr.cs)) ∧ At wr (w.heap.size + 1) 50 #[.int .i64 ro, .string ⟨tb.toArray⟩, .int .i64 nb] ∧ Below w.heap.size w wr ∧ Z ≤ wr.heap.size) (fun _ _ iv _ => n - (intOf iv).toNat)
      case atStart => exact ⟨0, by omega, rfl, by rw [pvF_zero], by rw [gi_zero]; exact Lib.hid (World.ownsRow_nil _ _ _ 3), aG5, hb5, by omega⟩
      case round =>
        obtain ⟨k, hk, rfl, hpv, HO, aGr, hbr, hzr⟩ := hrel
        by_cases hlt : k < n
        · obtain ⟨bb, off, rfl, hbl, hcell⟩ := hr.2.2 (by omega)
          obtain ⟨c0, c1, c2⟩ := (hcell k hlt).keep fun i => hbr.cell (p := ⟨bb, i, none⟩) hbl
          have hhit := gi_hit (mid := mid) (k := k) hs hp (by omega)
          have hlow := gi_low (mid := mid) (k := k) hs hp
          have hhigh := gi_high (mid := mid) (k := k) hs hp (by omega)
          have hgl1 := gi_len (gs := gs) (i := i) (j0 := j0G i b) (k := k) hmid
          rw [show atG gs k = gs.getD k default from rfl] at hhit hlow hhigh
          clear hcell
          obtain ⟨o, hoo⟩ : ∃ o, gs.getD k default = o := ⟨_, rfl⟩
          rw [hoo] at hhit hlow hhigh c0 c1 c2
          obtain ⟨oro, otb, obi⟩ := o
          have HOO := Lib.hid hoo
          clear hoo
          simp only at c0 c1 c2 hhit hlow hhigh
          have hb0 := below_box wr (.cells #[.int .i64 oro, .string ⟨otb.toArray⟩, .int .i64 obi] 50)
          have hb3 := below_in hbr hb0
          have hox := World.ownsRow.alloc HO.out (.cells #[.int .i64 oro, .string ⟨otb.toArray⟩, .int .i64 obi] 50)
          have aGx := aGr.alloc (.cells #[.int .i64 oro, .string ⟨otb.toArray⟩, .int .i64 obi] 50)
          have aOx := At.fresh wr 50 #[.int .i64 oro, .string ⟨otb.toArray⟩, .int .i64 obi]
          obtain ⟨u0, u1, u2⟩ := aGx.tri0
          have hle0 : Z ≤ (wr.alloc (.cells #[.int .i64 oro, .string ⟨otb.toArray⟩, .int .i64 obi] 50)).heap.size := by simp; omega
          by_cases hm : oro = ro ∧ otb = tb
          · obtain ⟨rfl, rfl⟩ := hm
            obtain ⟨h1, h2, h3⟩ := hhit rfl rfl
            have q1 : (otb == otb) = true := by simp
            have hpv2 : pvF z (j0G i b) k = pvF z (j0G i b) (k + 1) := by
              subst h2
              have : j0G i true = i + 1 := rfl
              unfold pvF
              rw [this, decide_eq_false (by omega), decide_eq_false (by omega)]
            have HO3 : Hid ((wr.alloc (.cells #[.int .i64 oro, .string ⟨otb.toArray⟩, .int .i64 obi] 50)).ownsRow Z 50 3 u7 (giL gs i (j0G i b) mid (k + 1)).length ((giL gs i (j0G i b) mid (k + 1)).flatMap Gr.cs)) := by
              show World.ownsRow _ _ _ _ _ _ _
              rw [h3]; exact hox
            rw [hpv2] at hpv
            have hzx : Z ≤ (wr.alloc (.cells #[.int .i64 oro, .string ⟨otb.toArray⟩, .int .i64 obi] 50)).heap.size := hle0
            clear hhit hlow hhigh HO hox h1 h2 h3 hpv2
            have hpv3 := Lib.hid hpv
            subst hpv
            go_wp2_with fail
            exact ⟨⟨k + 1, by omega, by go_num, rfl, HO3, aGx, hb3, hzx⟩, by simp [intOf]; omega⟩
          · have hcs := gi_cases (z := z) (k := k) hs hp (by omega) (by rw [show atG gs k = gs.getD k default from rfl, HOO.out]; exact hm) hmI.out hzI.out
            rw [show atG gs k = gs.getD k default from rfl, HOO.out] at hcs
            simp only at hcs
            clear hhit hlow hhigh
            rcases hcs with ⟨f1, f2, hL⟩ | ⟨f1, f2, hL, hlt2⟩ | ⟨f1, f2, hL, hlt2⟩
            · rw [f1] at hpv
              subst hpv
              have hn1 : (giL gs i (j0G i b) mid k).length + 1 ≤ 1000000000 := by omega
              by_cases e1 : oro = ro
              · have q1 : (otb == tb) = false := by simpa using fun e => hm ⟨e1, e⟩
                subst e1
                clear hm
                go_wp2_with (at_builtin; (refine wp_append1 rfl (.tmp 96) (.tmp 98) 23 rfl 50 3 32 _ Tryz.underlying23 info_grant rfl (by omega) hox #[.int .i64 oro, .string ⟨otb.toArray⟩, .int .i64 obi] 50 rfl rfl (World.size_alloc _ _) rfl ?c1 (by omega) (by omega) hle0 ?_))
                case c1 => exact ⟨rfl, rfl, rfl⟩
                intro g cap2 w5 ho5 hg5 hlt5
                have hb5 := hb3.grown hg5.grown (Nat.le_trans hZw hle0) (fun k hk => Nat.le_trans hZw (World.ownsRow.lt hox k hk).1)
                have aG5 := At.grown aGx hg5.grown (fun e => by have := (World.ownsRow.lt hox _ e.symm).1; omega)
                have hz5 := hg5.grown.size
                have HO5 : Hid (w5.ownsRow Z 50 3 (.slice (some ⟨g, 0, none⟩) (giL gs i (j0G i b) mid (k + 1)).length cap2) (giL gs i (j0G i b) mid (k + 1)).length ((giL gs i (j0G i b) mid (k + 1)).flatMap Gr.cs)) := by
                  show World.ownsRow _ _ _ _ _ _ _
                  rw [hL, List.length_append, List.flatMap_append]
                  exact ho5
                have HLN : Hid ((giL gs i (j0G i b) mid k).length + 1 = (giL gs i (j0G i b) mid (k + 1)).length) := by
                  show _ = _
                  rw [hL, List.length_append]; rfl
                clear ho5 hg5 hox HO aOx u0 u1 u2
                rw [HLN.out]
                go_wp2_with fail
                exact ⟨⟨k + 1, by omega, by go_num, f2.symm ▸ rfl, HO5, aG5, hb5, by omega⟩, by simp [intOf]; omega⟩
              · have q1 : (oro == ro) = false := by simpa using e1
                clear hm e1
                go_wp2_with (at_builtin; (refine wp_append1 rfl (.tmp 96) (.tmp 98) 23 rfl 50 3 32 _ Tryz.underlying23 info_grant rfl (by omega) hox #[.int .i64 oro, .string ⟨otb.toArray⟩, .int .i64 obi] 50 rfl rfl (World.size_alloc _ _) rfl ?c1 (by omega) (by omega) hle0 ?_))
                case c1 => exact ⟨rfl, rfl, rfl⟩
                intro g cap2 w5 ho5 hg5 hlt5
                have hb5 := hb3.grown hg5.grown (Nat.le_trans hZw hle0) (fun k hk => Nat.le_trans hZw (World.ownsRow.lt hox k hk).1)
                have aG5 := At.grown aGx hg5.grown (fun e => by have := (World.ownsRow.lt hox _ e.symm).1; omega)
                have hz5 := hg5.grown.size
                have HO5 : Hid (w5.ownsRow Z 50 3 (.slice (some ⟨g, 0, none⟩) (giL gs i (j0G i b) mid (k + 1)).length cap2) (giL gs i (j0G i b) mid (k + 1)).length ((giL gs i (j0G i b) mid (k + 1)).flatMap Gr.cs)) := by
                  show World.ownsRow _ _ _ _ _ _ _
                  rw [hL, List.length_append, List.flatMap_append]
                  exact ho5
                have HLN : Hid ((giL gs i (j0G i b) mid k).length + 1 = (giL gs i (j0G i b) mid (k + 1)).length) := by
                  show _ = _
                  rw [hL, List.length_append]; rfl
                clear ho5 hg5 hox HO aOx u0 u1 u2
                rw [HLN.out]
                go_wp2_with fail
                exact ⟨⟨k + 1, by omega, by go_num, f2.symm ▸ rfl, HO5, aG5, hb5, by omega⟩, by simp [intOf]; omega⟩
            · rw [f1] at hpv
              subst hpv
              have hn1 : (giL gs i (j0G i b) mid k).length + 1 ≤ 1000000000 := by omega
              by_cases e1 : oro = ro
              · have q1 : (otb == tb) = false := by simpa using fun e => hm ⟨e1, e⟩
                subst e1
                rw [ltK_eq] at hlt2
                have q2 : bytesLess tb otb = false := bl_asym hlt2
                have q3 : bytesLess otb tb = true := hlt2
                clear hm hlt2
                go_wp2_with (at_builtin; (refine wp_append1 rfl (.tmp 96) (.tmp 98) 23 rfl 50 3 32 _ Tryz.underlying23 info_grant rfl (by omega) hox #[.int .i64 oro, .string ⟨otb.toArray⟩, .int .i64 obi] 50 rfl rfl (World.size_alloc _ _) rfl ?c1 (by omega) (by omega) hle0 ?_))
                case c1 => exact ⟨rfl, rfl, rfl⟩
                intro g cap2 w5 ho5 hg5 hlt5
                have hb5 := hb3.grown hg5.grown (Nat.le_trans hZw hle0) (fun k hk => Nat.le_trans hZw (World.ownsRow.lt hox k hk).1)
                have aG5 := At.grown aGx hg5.grown (fun e => by have := (World.ownsRow.lt hox _ e.symm).1; omega)
                have hz5 := hg5.grown.size
                have HO5 : Hid (w5.ownsRow Z 50 3 (.slice (some ⟨g, 0, none⟩) (giL gs i (j0G i b) mid (k + 1)).length cap2) (giL gs i (j0G i b) mid (k + 1)).length ((giL gs i (j0G i b) mid (k + 1)).flatMap Gr.cs)) := by
                  show World.ownsRow _ _ _ _ _ _ _
                  rw [hL, List.length_append, List.flatMap_append]
                  exact ho5
                have HLN : Hid ((giL gs i (j0G i b) mid k).length + 1 = (giL gs i (j0G i b) mid (k + 1)).length) := by
                  show _ = _
                  rw [hL, List.length_append]; rfl
                clear ho5 hg5 hox HO aOx u0 u1 u2
                rw [HLN.out]
                go_wp2_with fail
                exact ⟨⟨k + 1, by omega, by go_num, f2.symm ▸ rfl, HO5, aG5, hb5, by omega⟩, by simp [intOf]; omega⟩
              · have q1 : (oro == ro) = false := by simpa using e1
                have q2 : ¬ ro < oro := fun h => by rw [ltK_gt h] at hlt2; cases hlt2
                clear hm e1 hlt2
                go_wp2_with (at_builtin; (refine wp_append1 rfl (.tmp 96) (.tmp 98) 23 rfl 50 3 32 _ Tryz.underlying23 info_grant rfl (by omega) hox #[.int .i64 oro, .string ⟨otb.toArray⟩, .int .i64 obi] 50 rfl rfl (World.size_alloc _ _) rfl ?c1 (by omega) (by omega) hle0 ?_))
                case c1 => exact ⟨rfl, rfl, rfl⟩
                intro g cap2 w5 ho5 hg5 hlt5
                have hb5 := hb3.grown hg5.grown (Nat.le_trans hZw hle0) (fun k hk => Nat.le_trans hZw (World.ownsRow.lt hox k hk).1)
                have aG5 := At.grown aGx hg5.grown (fun e => by have := (World.ownsRow.lt hox _ e.symm).1; omega)
                have hz5 := hg5.grown.size
                have HO5 : Hid (w5.ownsRow Z 50 3 (.slice (some ⟨g, 0, none⟩) (giL gs i (j0G i b) mid (k + 1)).length cap2) (giL gs i (j0G i b) mid (k + 1)).length ((giL gs i (j0G i b) mid (k + 1)).flatMap Gr.cs)) := by
                  show World.ownsRow _ _ _ _ _ _ _
                  rw [hL, List.length_append, List.flatMap_append]
                  exact ho5
                have HLN : Hid ((giL gs i (j0G i b) mid k).length + 1 = (giL gs i (j0G i b) mid (k + 1)).length) := by
                  show _ = _
                  rw [hL, List.length_append]; rfl
                clear ho5 hg5 hox HO aOx u0 u1 u2
                rw [HLN.out]
                go_wp2_with fail
                exact ⟨⟨k + 1, by omega, by go_num, f2.symm ▸ rfl, HO5, aG5, hb5, by omega⟩, by simp [intOf]; omega⟩
            · rw [f1] at hpv
              subst hpv
              have hn1 : (giL gs i (j0G i b) mid k).length + 1 ≤ 1000000000 := by omega
              have hn2 : (giL gs i (j0G i b) mid k).length + 1 + 1 ≤ 1000000000 := by omega
              by_cases e1 : oro = ro
              · have q1 : (otb == tb) = false := by simpa using fun e => hm ⟨e1, e⟩
                subst e1
                rw [ltK_eq] at hlt2
                have q2 : bytesLess tb otb = true := hlt2
                have q3 : bytesLess otb tb = false := bl_asym hlt2
                clear hm hlt2
                go_wp2_with (at_builtin; (refine wp_append1 rfl (.tmp 92) (.tmp 94) 23 rfl 50 3 32 _ Tryz.underlying23 info_grant rfl (by omega) hox #[.int .i64 oro, .string ⟨tb.toArray⟩, .int .i64 nb] 50 rfl rfl (World.size_alloc _ _) rfl ?c1 (by omega) (by omega) hle0 ?_))
                case c1 => exact ⟨rfl, rfl, rfl⟩
                intro g1 cap1 wA hoA hgA hltA
                have hbA := hb3.grown hgA.grown (Nat.le_trans hZw hle0) (fun k hk => Nat.le_trans hZw (World.ownsRow.lt hox k hk).1)
                have aGA := At.grown aGx hgA.grown (fun e => by have := (World.ownsRow.lt hox _ e.symm).1; omega)
                have aOA := At.grown aOx hgA.grown (fun e => by have := (World.ownsRow.lt HO.out _ e.symm).2; omega)
                have hzA := hgA.grown.size
                obtain ⟨w0, w1, w2⟩ := aOA.tri0
                have hleA : Z ≤ wA.heap.size := by omega
                have HOA := Lib.hid hoA
                clear u0 u1 u2 hgA
                go_wp2_with (at_builtin; (refine wp_append1 rfl (.tmp 96) (.tmp 98) 23 rfl 50 3 32 _ Tryz.underlying23 info_grant rfl (by omega) HOA.out #[.int .i64 oro, .string ⟨otb.toArray⟩, .int .i64 obi] 50 rfl rfl rfl rfl ?c1 (by omega) (by omega) hleA ?_))
                case c1 => exact ⟨rfl, rfl, rfl⟩
                intro g2 cap2 w5 ho5 hg5 hlt5
                have hb5 := hbA.grown hg5.grown (Nat.le_trans hZw hleA) (fun k hk => Nat.le_trans hZw (World.ownsRow.lt HOA.out k hk).1)
                have aG5 := At.grown aGA hg5.grown (fun e => by have := (World.ownsRow.lt HOA.out _ e.symm).1; omega)
                have hz5 := hg5.grown.size
                have HLN : Hid ((giL gs i (j0G i b) mid k).length + 1 + 1 = (giL gs i (j0G i b) mid (k + 1)).length) := by
                  show _ = _
                  rw [hL, List.length_append, List.length_append]; rfl
                have HO5 : Hid (w5.ownsRow Z 50 3 (.slice (some ⟨g2, 0, none⟩) (giL gs i (j0G i b) mid (k + 1)).length cap2) (giL gs i (j0G i b) mid (k + 1)).length ((giL gs i (j0G i b) mid (k + 1)).flatMap Gr.cs)) := by
                  show World.ownsRow _ _ _ _ _ _ _
                  rw [← HLN.out, hL, List.flatMap_append, List.flatMap_append, List.append_assoc]
                  exact ho5
                clear ho5 hg5 hox hoA HOA HO aOx w0 w1 w2
                rw [HLN.out]
                go_wp2_with fail
                exact ⟨⟨k + 1, by omega, by go_num, f2.symm ▸ rfl, HO5, aG5, hb5, by omega⟩, by simp [intOf]; omega⟩
              · have q1 : (oro == ro) = false := by simpa using e1
                have q2 : ro < oro := by
                  rcases Int.lt_trichotomy ro oro with h | h | h
                  · exact h
                  · exact absurd h.symm e1
                  · rw [ltK_gt h] at hlt2; cases hlt2
                clear hm e1 hlt2
                go_wp2_with (at_builtin; (refine wp_append1 rfl (.tmp 92) (.tmp 94) 23 rfl 50 3 32 _ Tryz.underlying23 info_grant rfl (by omega) hox #[.int .i64 ro, .string ⟨tb.toArray⟩, .int .i64 nb] 50 rfl rfl (World.size_alloc _ _) rfl ?c1 (by omega) (by omega) hle0 ?_))
                case c1 => exact ⟨rfl, rfl, rfl⟩
                intro g1 cap1 wA hoA hgA hltA
                have hbA := hb3.grown hgA.grown (Nat.le_trans hZw hle0) (fun k hk => Nat.le_trans hZw (World.ownsRow.lt hox k hk).1)
                have aGA := At.grown aGx hgA.grown (fun e => by have := (World.ownsRow.lt hox _ e.symm).1; omega)
                have aOA := At.grown aOx hgA.grown (fun e => by have := (World.ownsRow.lt HO.out _ e.symm).2; omega)
                have hzA := hgA.grown.size
                obtain ⟨w0, w1, w2⟩ := aOA.tri0
                have hleA : Z ≤ wA.heap.size := by omega
                have HOA := Lib.hid hoA
                clear u0 u1 u2 hgA
                go_wp2_with (at_builtin; (refine wp_append1 rfl (.tmp 96) (.tmp 98) 23 rfl 50 3 32 _ Tryz.underlying23 info_grant rfl (by omega) HOA.out #[.int .i64 oro, .string ⟨otb.toArray⟩, .int .i64 obi] 50 rfl rfl rfl rfl ?c1 (by omega) (by omega) hleA ?_))
                case c1 => exact ⟨rfl, rfl, rfl⟩
                intro g2 cap2 w5 ho5 hg5 hlt5
                have hb5 := hbA.grown hg5.grown (Nat.le_trans hZw hleA) (fun k hk => Nat.le_trans hZw (World.ownsRow.lt HOA.out k hk).1)
                have aG5 := At.grown aGA hg5.grown (fun e => by have := (World.ownsRow.lt HOA.out _ e.symm).1; omega)
                have hz5 := hg5.grown.size
                have HLN : Hid ((giL gs i (j0G i b) mid k).length + 1 + 1 = (giL gs i (j0G i b) mid (k + 1)).length) := by
                  show _ = _
                  rw [hL, List.length_append, List.length_append]; rfl
                have HO5 : Hid (w5.ownsRow Z 50 3 (.slice (some ⟨g2, 0, none⟩) (giL gs i (j0G i b) mid (k + 1)).length cap2) (giL gs i (j0G i b) mid (k + 1)).length ((giL gs i (j0G i b) mid (k + 1)).flatMap Gr.cs)) := by
                  show World.ownsRow _ _ _ _ _ _ _
                  rw [← HLN.out, hL, List.flatMap_append, List.flatMap_append, List.append_assoc]
                  exact ho5
                clear ho5 hg5 hox hoA HOA HO aOx w0 w1 w2
                rw [HLN.out]
                go_wp2_with fail
                exact ⟨⟨k + 1, by omega, by go_num, f2.symm ▸ rfl, HO5, aG5, hb5, by omega⟩, by simp [intOf]; omega⟩
        · obtain rfl : n = k := by omega
          have hfe := gi_final (mid := mid) (z := z) (nb := nb) (i := i) (b := b) hp.le hmI.out hzI.out
          rw [hgl] at hfe
          rcases hfe with ⟨f1, f2⟩ | ⟨f1, f2⟩
          · rw [f1] at hpv
            subst hpv
            have HX := Lib.hid (fun w' ho => HV.out u7 0 (giL gs i (j0G i b) mid n) w' ho (by rw [f2]; exact HFIN.out))
            clear HV HFIN f2 hp hs hr
            go_wp2_with fail
            exact bodyPost_ret (v := .tuple #[u7, .int .i64 0]) (by simp [results, Tryz.results55, go_sem]) rfl ⟨HX.out _ (own_mono HO.out hZw), hbr⟩
          · rw [f1] at hpv
            subst hpv
            have HX := Lib.hid (fun v w' ho => HV.out v 0 (giL gs i (j0G i b) mid n ++ [⟨ro, tb, nb⟩]) w' ho (by rw [f2]; exact HFIN.out))
            have hgl1 := gi_len (gs := gs) (i := i) (j0 := j0G i b) (k := n) hmid
            have hn1 : (giL gs i (j0G i b) mid n).length + 1 ≤ 1000000000 := by omega
            obtain ⟨u0, u1, u2⟩ := aGr.tri0
            clear HV HFIN f2 hp hs hr
            go_wp2_with (at_builtin; (refine wp_append1 rfl (.tmp 103) (.tmp 105) 23 rfl 50 3 32 _ Tryz.underlying23 info_grant rfl (by omega) HO.out #[.int .i64 ro, .string ⟨tb.toArray⟩, .int .i64 nb] 50 rfl rfl rfl rfl ?c1 (by omega) (by omega) hzr ?_))
            case c1 => exact ⟨rfl, rfl, rfl⟩
            intro g2 cap2 w5 ho5 hg5 hlt5
            have hb5 := hbr.grown hg5.grown (Nat.le_trans hZw hzr) (fun k hk => Nat.le_trans hZw (World.ownsRow.lt HO.out k hk).1)
            have HO5 : Hid (w5.ownsRow w.heap.size 50 3 (.slice (some ⟨g2, 0, none⟩) ((giL gs i (j0G i b) mid n).length + 1) cap2) (giL gs i (j0G i b) mid n ++ [(⟨ro, tb, nb⟩ : Gr)]).length ((giL gs i (j0G i b) mid n ++ [(⟨ro, tb, nb⟩ : Gr)]).flatMap Gr.cs)) := by
              show World.ownsRow _ _ _ _ _ _ _
              rw [List.length_append, List.flatMap_append]
              exact own_mono ho5 hZw
            clear ho5 hg5 HO u0 u1 u2
            go_wp2_with fail
            exact bodyPost_ret (v := .tuple #[.slice (some ⟨g2, 0, none⟩) ((giL gs i (j0G i b) mid n).length + 1) cap2, .int .i64 0]) (by simp [results, Tryz.results55, go_sem]) rfl ⟨HX.out _ _ HO5.out, hb5⟩
    | true =>
      obtain rfl : kd = 8 := hk
      by_cases h64 : h = 0 ∧ 64 ≤ n
      · obtain ⟨h0, h1⟩ := h64
        have hbf : b = false := by
          cases b with
          | false => rfl
          | true =>
            obtain ⟨q1, q2, q3⟩ := hp.yes rfl
            obtain ⟨-, hgdd, hpw⟩ := (sorted_pw gs).1 hs
            have hm : atG gs i ∈ gs := getD_in2 q1
            have := bits_mem hpw hm
            rw [q2, q3, hh, h0] at this
            have := (good_parts (hgdd _ hm)).2.2.1
            omega
        have HX := Lib.hid (fun w' => HV.out (.slice none 0 0) 3 [] w' (World.ownsRow_nil _ _ _ 3) (.inr ⟨hgd, i, b, hp, .inl ⟨hbf, by omega, rfl, rfl⟩⟩))
        have h1I : (64 : Int) ≤ (n : Int) := by omega
        subst h0
        clear HV HGI hh hkc hp hs
        go_wp2_with fail
        exact bodyPost_ret (v := .tuple #[.slice none 0 0, .int .i64 3]) (by simp [results, Tryz.results55, go_sem]) rfl ⟨HX.out _, hb4⟩
      · obtain ⟨nb, hnb⟩ : ∃ nb, orI h bi = nb := ⟨_, rfl⟩
        have HFIN := Lib.hid (HGI.out true nb (by rw [hh, hnb]; rfl) (fun _ e => h64 ⟨by rw [← hh]; exact e.1, by omega⟩))
        have hcond : (h == 0 && decide ((64 : Int) ≤ (n : Int))) = false := by
          rw [Bool.and_eq_false_iff]
          by_cases h0 : h = 0
          · right; simp; omega
          · left; simpa using h0
        by_cases h0 : h = 0
        · have hc1 : ¬ (64 : Int) ≤ (n : Int) := fun e => h64 ⟨h0, by omega⟩
          clear h64 hcond
          have HH0 := Lib.hid h0
          have hc0 : (h == 0) = true := by simp [h0]
          clear h0
          have aG5 : At (w4.setCell ⟨w.heap.size + 1, 2, none⟩ (.int .i64 nb)) (w.heap.size + 1) 50 #[.int .i64 ro, .string ⟨tb.toArray⟩, .int .i64 nb] := aG4.put 2 (.int .i64 nb)
          have hb5 := hb4.setCell (p := ⟨w.heap.size + 1, 2, none⟩) (by show w.heap.size ≤ w.heap.size + 1; omega) (.int .i64 nb)
          have hnb2 : Go.bits BinOp.or IntKind.i64 h bi = nb := hnb
          have hz4 : w.heap.size + 2 ≤ w4.heap.size := by have := aG4.lt; omega
          have hz5 : (w4.setCell ⟨w.heap.size + 1, 2, none⟩ (.int .i64 nb)).heap.size = w4.heap.size := by simp [World.setCell]
          obtain ⟨z, hz⟩ : ∃ z : Bool, (nb == 0) = z := ⟨_, rfl⟩
          obtain ⟨v0, v1, v2⟩ := aG5.tri0
          clear hnb HGI aT4 aG4 hkc hh hb4
          go_wp2_with fail
          generalize w4.setCell ⟨w.heap.size + 1, 2, none⟩ (.int .i64 nb) = W5 at *
          obtain ⟨mid, hmide⟩ : ∃ mid : List Gr, (if nb = 0 then [] else [⟨ro, tb, nb⟩]) = mid := ⟨_, rfl⟩
          rw [hmide] at HFIN
          obtain ⟨Z, hZ⟩ : ∃ Z, W5.heap.size = Z := ⟨_, rfl⟩
          have hZw : w.heap.size ≤ Z := by omega
          have hmid : mid.length ≤ 1 := by rw [← hmide]; split <;> simp
          have hzI : Hid ((nb == 0) = z) := hz
          have hmI : Hid (mid = if nb = 0 then [] else [⟨ro, tb, nb⟩]) := hmide.symm
          clear hz hmide hnb2 g0 g1 g2 v0 v1 v2 k0
          go_loopw [7, 9, 53] (fun v pv iv wr => ∃ k : Nat, k ≤ n ∧ iv = .int .i64 k ∧ pv = .bool (pvF z (j0G i b) k) ∧ Hid (wr.ownsRow Z 50 3 v (giL gs i (j0G i b) mid k).length ((giL gs i (j0G i b) mid k).flatMap Gr.cs)) ∧ At wr (w.heap.size + 1) 50 #[.int .i64 ro, .string ⟨tb.toArray⟩, .int .i64 nb] ∧ Below w.heap.size w wr ∧ Z ≤ wr.heap.size) (fun _ _ iv _ => n - (intOf iv).toNat)
          case atStart => exact ⟨0, by omega, rfl, by rw [pvF_zero], by rw [gi_zero]; exact Lib.hid (World.ownsRow_nil _ _ _ 3), aG5, hb5, by omega⟩
          case round =>
            obtain ⟨k, hk, rfl, hpv, HO, aGr, hbr, hzr⟩ := hrel
            by_cases hlt : k < n
            · obtain ⟨bb, off, rfl, hbl, hcell⟩ := hr.2.2 (by omega)
              obtain ⟨c0, c1, c2⟩ := (hcell k hlt).keep fun i => hbr.cell (p := ⟨bb, i, none⟩) hbl
              have hhit := gi_hit (mid := mid) (k := k) hs hp (by omega)
              have hlow := gi_low (mid := mid) (k := k) hs hp
              have hhigh := gi_high (mid := mid) (k := k) hs hp (by omega)
              have hgl1 := gi_len (gs := gs) (i := i) (j0 := j0G i b) (k := k) hmid
              rw [show atG gs k = gs.getD k default from rfl] at hhit hlow hhigh
              clear hcell
              obtain ⟨o, hoo⟩ : ∃ o, gs.getD k default = o := ⟨_, rfl⟩
              rw [hoo] at hhit hlow hhigh c0 c1 c2
              obtain ⟨oro, otb, obi⟩ := o
              have HOO := Lib.hid hoo
              clear hoo
              simp only at c0 c1 c2 hhit hlow hhigh
              have hb0 := below_box wr (.cells #[.int .i64 oro, .string ⟨otb.toArray⟩, .int .i64 obi] 50)
              have hb3 := below_in hbr hb0
              have hox := World.ownsRow.alloc HO.out (.cells #[.int .i64 oro, .string ⟨otb.toArray⟩, .int .i64 obi] 50)
              have aGx := aGr.alloc (.cells #[.int .i64 oro, .string ⟨otb.toArray⟩, .int .i64 obi] 50)
              have aOx := At.fresh wr 50 #[.int .i64 oro, .string ⟨otb.toArray⟩, .int .i64 obi]
              obtain ⟨u0, u1, u2⟩ := aGx.tri0
              have hle0 : Z ≤ (wr.alloc (.cells #[.int .i64 oro, .string ⟨otb.toArray⟩, .int .i64 obi] 50)).heap.size := by simp; omega
              by_cases hm : oro = ro ∧ otb = tb
              · obtain ⟨rfl, rfl⟩ := hm
                obtain ⟨h1, h2, h3⟩ := hhit rfl rfl
                have q1 : (otb == otb) = true := by simp
                have hpv2 : pvF z (j0G i b) k = pvF z (j0G i b) (k + 1) := by
                  subst h2
                  have : j0G i true = i + 1 := rfl
                  unfold pvF
                  rw [this, decide_eq_false (by omega), decide_eq_false (by omega)]
                have HO3 : Hid ((wr.alloc (.cells #[.int .i64 oro, .string ⟨otb.toArray⟩, .int .i64 obi] 50)).ownsRow Z 50 3 u7 (giL gs i (j0G i b) mid (k + 1)).length ((giL gs i (j0G i b) mid (k + 1)).flatMap Gr.cs)) := by
                  show World.ownsRow _ _ _ _ _ _ _
                  rw [h3]; exact hox
                rw [hpv2] at hpv
                have hzx : Z ≤ (wr.alloc (.cells #[.int .i64 oro, .string ⟨otb.toArray⟩, .int .i64 obi] 50)).heap.size := hle0
                clear hhit hlow hhigh HO hox h1 h2 h3 hpv2
                have hpv3 := Lib.hid hpv
                subst hpv
                go_wp2_with fail
                exact ⟨⟨k + 1, by omega, by go_num, rfl, HO3, aGx, hb3, hzx⟩, by simp [intOf]; omega⟩
              · have hcs := gi_cases (z := z) (k := k) hs hp (by omega) (by rw [show atG gs k = gs.getD k default from rfl, HOO.out]; exact hm) hmI.out hzI.out
                rw [show atG gs k = gs.getD k default from rfl, HOO.out] at hcs
                simp only at hcs
                clear hhit hlow hhigh
                rcases hcs with ⟨f1, f2, hL⟩ | ⟨f1, f2, hL, hlt2⟩ | ⟨f1, f2, hL, hlt2⟩
                · rw [f1] at hpv
                  subst hpv
                  have hn1 : (giL gs i (j0G i b) mid k).length + 1 ≤ 1000000000 := by omega
                  by_cases e1 : oro = ro
                  · have q1 : (otb == tb) = false := by simpa using fun e => hm ⟨e1, e⟩
                    subst e1
                    clear hm
                    go_wp2_with (at_builtin; (refine wp_append1 rfl (.tmp 96) (.tmp 98) 23 rfl 50 3 32 _ Tryz.underlying23 info_grant rfl (by omega) hox #[.int .i64 oro, .string ⟨otb.toArray⟩, .int .i64 obi] 50 rfl rfl (World.size_alloc _ _) rfl ?c1 (by omega) (by omega) hle0 ?_))
                    case c1 => exact ⟨rfl, rfl, rfl⟩
                    intro g cap2 w5 ho5 hg5 hlt5
                    have hb5 := hb3.grown hg5.grown (Nat.le_trans hZw hle0) (fun k hk => Nat.le_trans hZw (World.ownsRow.lt hox k hk).1)
                    have aG5 := At.grown aGx hg5.grown (fun e => by have := (World.ownsRow.lt hox _ e.symm).1; omega)
                    have hz5 := hg5.grown.size
                    have HO5 : Hid (w5.ownsRow Z 50 3 (.slice (some ⟨g, 0, none⟩) (giL gs i (j0G i b) mid (k + 1)).length cap2) (giL gs i (j0G i b) mid (k + 1)).length ((giL gs i (j0G i b) mid (k + 1)).flatMap Gr.cs)) := by
                      show World.ownsRow _ _ _ _ _ _ _
                      rw [hL, List.length_append, List.flatMap_append]
                      exact ho5
                    have HLN : Hid ((giL gs i (j0G i b) mid k).length + 1 = (giL gs i (j0G i b) mid (k + 1)).length) := by
                      show _ = _
                      rw [hL, List.length_append]; rfl
                    clear ho5 hg5 hox HO aOx u0 u1 u2
                    rw [HLN.out]
                    go_wp2_with fail
                    exact ⟨⟨k + 1, by omega, by go_num, f2.symm ▸ rfl, HO5, aG5, hb5, by omega⟩, by simp [intOf]; omega⟩
                  · have q1 : (oro == ro) = false := by simpa using e1
                    clear hm e1
                    go_wp2_with (at_builtin; (refine wp_append1 rfl (.tmp 96) (.tmp 98) 23 rfl 50 3 32 _ Tryz.underlying23 info_grant rfl (by omega) hox #[.int .i64 oro, .string ⟨otb.toArray⟩, .int .i64 obi] 50 rfl rfl (World.size_alloc _ _) rfl ?c1 (by omega) (by omega) hle0 ?_))
                    case c1 => exact ⟨rfl, rfl, rfl⟩
                    intro g cap2 w5 ho5 hg5 hlt5
                    have hb5 := hb3.grown hg5.grown (Nat.le_trans hZw hle0) (fun k hk => Nat.le_trans hZw (World.ownsRow.lt hox k hk).1)
                    have aG5 := At.grown aGx hg5.grown (fun e => by have := (World.ownsRow.lt hox _ e.symm).1; omega)
                    have hz5 := hg5.grown.size
                    have HO5 : Hid (w5.ownsRow Z 50 3 (.slice (some ⟨g, 0, none⟩) (giL gs i (j0G i b) mid (k + 1)).length cap2) (giL gs i (j0G i b) mid (k + 1)).length ((giL gs i (j0G i b) mid (k + 1)).flatMap Gr.cs)) := by
                      show World.ownsRow _ _ _ _ _ _ _
                      rw [hL, List.length_append, List.flatMap_append]
                      exact ho5
                    have HLN : Hid ((giL gs i (j0G i b) mid k).length + 1 = (giL gs i (j0G i b) mid (k + 1)).length) := by
                      show _ = _
                      rw [hL, List.length_append]; rfl
                    clear ho5 hg5 hox HO aOx u0 u1 u2
                    rw [HLN.out]
                    go_wp2_with fail
                    exact ⟨⟨k + 1, by omega, by go_num, f2.symm ▸ rfl, HO5, aG5, hb5, by omega⟩, by simp [intOf]; omega⟩
                · rw [f1] at hpv
                  subst hpv
                  have hn1 : (giL gs i (j0G i b) mid k).length + 1 ≤ 1000000000 := by omega
                  by_cases e1 : oro = ro
                  · have q1 : (otb == tb) = false := by simpa using fun e => hm ⟨e1, e⟩
                    subst e1
                    rw [ltK_eq] at hlt2
                    have q2 : bytesLess tb otb = false := bl_asym hlt2
                    have q3 : bytesLess otb tb = true := hlt2
                    clear hm hlt2
                    go_wp2_with (at_builtin; (refine wp_append1 rfl (.tmp 96) (.tmp 98) 23 rfl 50 3 32 _ Tryz.underlying23 info_grant rfl (by omega) hox #[.int .i64 oro, .string ⟨otb.toArray⟩, .int .i64 obi] 50 rfl rfl (World.size_alloc _ _) rfl ?c1 (by omega) (by omega) hle0 ?_))
                    case c1 => exact ⟨rfl, rfl, rfl⟩
                    intro g cap2 w5 ho5 hg5 hlt5
                    have hb5 := hb3.grown hg5.grown (Nat.le_trans hZw hle0) (fun k hk => Nat.le_trans hZw (World.ownsRow.lt hox k hk).1)
                    have aG5 := At.grown aGx hg5.grown (fun e => by have := (World.ownsRow.lt hox _ e.symm).1; omega)
                    have hz5 := hg5.grown.size
                    have HO5 : Hid (w5.ownsRow Z 50 3 (.slice (some ⟨g, 0, none⟩) (giL gs i (j0G i b) mid (k + 1)).length cap2) (giL gs i (j0G i b) mid (k + 1)).length ((giL gs i (j0G i b) mid (k + 1)).flatMap Gr.cs)) := by
                      show World.ownsRow _ _ _ _ _ _ _
                      rw [hL, List.length_append, List.flatMap_append]
                      exact ho5
                    have HLN : Hid ((giL gs i (j0G i b) mid k).length + 1 = (giL gs i (j0G i b) mid (k + 1)).length) := by
                      show _ = _
                      rw [hL, List.length_append]; rfl
                    clear ho5 hg5 hox HO aOx u0 u1 u2
                    rw [HLN.out]
                    go_wp2_with fail
                    exact ⟨⟨k + 1, by omega, by go_num, f2.symm ▸ rfl, HO5, aG5, hb5, by omega⟩, by simp [intOf]; omega⟩
                  · have q1 : (oro == ro) = false := by simpa using e1
                    have q2 : ¬ ro < oro := fun h => by rw [ltK_gt h] at hlt2; cases hlt2
                    clear hm e1 hlt2
                    go_wp2_with (at_builtin; (refine wp_append1 rfl (.tmp 96) (.tmp 98) 23 rfl 50 3 32 _ Tryz.underlying23 info_grant rfl (by omega) hox #[.int .i64 oro, .string ⟨otb.toArray⟩, .int .i64 obi] 50 rfl rfl (World.size_alloc _ _) rfl ?c1 (by omega) (by omega) hle0 ?_))
                    case c1 => exact ⟨rfl, rfl, rfl⟩
                    intro g cap2 w5 ho5 hg5 hlt5
                    have hb5 := hb3.grown hg5.grown (Nat.le_trans hZw hle0) (fun k hk => Nat.le_trans hZw (World.ownsRow.lt hox k hk).1)
                    have aG5 := At.grown aGx hg5.grown (fun e => by have := (World.ownsRow.lt hox _ e.symm).1; omega)
                    have hz5 := hg5.grown.size
                    have HO5 : Hid (w5.ownsRow Z 50 3 (.slice (some ⟨g, 0, none⟩) (giL gs i (j0G i b) mid (k + 1)).length cap2) (giL gs i (j0G i b) mid (k + 1)).length ((giL gs i (j0G i b) mid (k + 1)).flatMap Gr.cs)) := by
                      show World.ownsRow _ _ _ _ _ _ _
                      rw [hL, List.length_append, List.flatMap_append]
                      exact ho5
                    have HLN : Hid ((giL gs i (j0G i b) mid k).length + 1 = (giL gs i (j0G i b) mid (k + 1)).length) := by
                      show _ = _
                      rw [hL, List.length_append]; rfl
                    clear ho5 hg5 hox HO aOx u0 u1 u2
                    rw [HLN.out]
                    go_wp2_with fail
                    exact ⟨⟨k + 1, by omega, by go_num, f2.symm ▸ rfl, HO5, aG5, hb5, by omega⟩, by simp [intOf]; omega⟩
                · rw [f1] at hpv
                  subst hpv
                  have hn1 : (giL gs i (j0G i b) mid k).length + 1 ≤ 1000000000 := by omega
                  have hn2 : (giL gs i (j0G i b) mid k).length + 1 + 1 ≤ 1000000000 := by omega
                  by_cases e1 : oro = ro
                  · have q1 : (otb == tb) = false := by simpa using fun e => hm ⟨e1, e⟩
                    subst e1
                    rw [ltK_eq] at hlt2
                    have q2 : bytesLess tb otb = true := hlt2
                    have q3 : bytesLess otb tb = false := bl_asym hlt2
                    clear hm hlt2
                    go_wp2_with (at_builtin; (refine wp_append1 rfl (.tmp 92) (.tmp 94) 23 rfl 50 3 32 _ Tryz.underlying23 info_grant rfl (by omega) hox #[.int .i64 oro, .string ⟨tb.toArray⟩, .int .i64 nb] 50 rfl rfl (World.size_alloc _ _) rfl ?c1 (by omega) (by omega) hle0 ?_))
                    case c1 => exact ⟨rfl, rfl, rfl⟩
                    intro g1 cap1 wA hoA hgA hltA
                    have hbA := hb3.grown hgA.grown (Nat.le_trans hZw hle0) (fun k hk => Nat.le_trans hZw (World.ownsRow.lt hox k hk).1)
                    have aGA := At.grown aGx hgA.grown (fun e => by have := (World.ownsRow.lt hox _ e.symm).1; omega)
                    have aOA := At.grown aOx hgA.grown (fun e => by have := (World.ownsRow.lt HO.out _ e.symm).2; omega)
                    have hzA := hgA.grown.size
                    obtain ⟨w0, w1, w2⟩ := aOA.tri0
                    have hleA : Z ≤ wA.heap.size := by omega
                    have HOA := Lib.hid hoA
                    clear u0 u1 u2 hgA
                    go_wp2_with (at_builtin; (refine wp_append1 rfl (.tmp 96) (.tmp 98) 23 rfl 50 3 32 _ Tryz.underlying23 info_grant rfl (by omega) HOA.out #[.int .i64 oro, .string ⟨otb.toArray⟩, .int .i64 obi] 50 rfl rfl rfl rfl ?c1 (by omega) (by omega) hleA ?_))
                    case c1 => exact ⟨rfl, rfl, rfl⟩
                    intro g2 cap2 w5 ho5 hg5 hlt5
                    have hb5 := hbA.grown hg5.grown (Nat.le_trans hZw hleA) (fun k hk => Nat.le_trans hZw (World.ownsRow.lt HOA.out k hk).1)
                    have aG5 := At.grown aGA hg5.grown (fun e => by have := (World.ownsRow.lt HOA.out _ e.symm).1; omega)
                    have hz5 := hg5.grown.size
                    have HLN : Hid ((giL gs i (j0G i b) mid k).length + 1 + 1 = (giL gs i (j0G i b) mid (k + 1)).length) := by
                      show _ = _
                      rw [hL, List.length_append, List.length_append]; rfl
                    have HO5 : Hid (w5.ownsRow Z 50 3 (.slice (some ⟨g2, 0, none⟩) (giL gs i (j0G i b) mid (k + 1)).length cap2) (giL gs i (j0G i b) mid (k + 1)).length ((giL gs i (j0G i b) mid (k + 1)).flatMap Gr.cs)) := by
                      show World.ownsRow _ _ _ _ _ _ _
                      rw [← HLN.out, hL, List.flatMap_append, List.flatMap_append, List.append_assoc]
                      exact ho5
                    clear ho5 hg5 hox hoA HOA HO aOx w0 w1 w2
                    rw [HLN.out]
                    go_wp2_with fail
                    exact ⟨⟨k + 1, by omega, by go_num, f2.symm ▸ rfl, HO5, aG5, hb5, by omega⟩, by simp [intOf]; omega⟩
                  · have q1 : (oro == ro) = false := by simpa using e1
                    have q2 : ro < oro := by
                      rcases Int.lt_trichotomy ro oro with h | h | h
                      · exact h
                      · exact absurd h.symm e1
                      · rw [ltK_gt h] at hlt2; cases hlt2
                    clear hm e1 hlt2
                    go_wp2_with (at_builtin; (refine wp_append1 rfl (.tmp 92) (.tmp 94) 23 rfl 50 3 32 _ Tryz.underlying23 info_grant rfl (by omega) hox #[.int .i64 ro, .string ⟨tb.toArray⟩, .int .i64 nb] 50 rfl rfl (World.size_alloc _ _) rfl ?c1 (by omega) (by omega) hle0 ?_))
                    case c1 => exact ⟨rfl, rfl, rfl⟩
                    intro g1 cap1 wA hoA hgA hltA
                    have hbA := hb3.grown hgA.grown (Nat.le_trans hZw hle0) (fun k hk => Nat.le_trans hZw (World.ownsRow.lt hox k hk).1)
                    have aGA := At.grown aGx hgA.grown (fun e => by have := (World.ownsRow.lt hox _ e.symm).1; omega)
                    have aOA := At.grown aOx hgA.grown (fun e => by have := (World.ownsRow.lt HO.out _ e.symm).2; omega)
                    have hzA := hgA.grown.size
                    obtain ⟨w0, w1, w2⟩ := aOA.tri0
                    have hleA : Z ≤ wA.heap.size := by omega
                    have HOA := Lib.hid hoA
                    clear u0 u1 u2 hgA
                    go_wp2_with (at_builtin; (refine wp_append1 rfl (.tmp 96) (.tmp 98) 23 rfl 50 3 32 _ Tryz.underlying23 info_grant rfl (by omega) HOA.out #[.int .i64 oro, .string ⟨otb.toArray⟩, .int .i64 obi] 50 rfl rfl rfl rfl ?c1 (by omega) (by omega) hleA ?_))
                    case c1 => exact ⟨rfl, rfl, rfl⟩
                    intro g2 cap2 w5 ho5 hg5 hlt5
                    have hb5 := hbA.grown hg5.grown (Nat.le_trans hZw hleA) (fun k hk => Nat.le_trans hZw (World.ownsRow.lt HOA.out k hk).1)
                    have aG5 := At.grown aGA hg5.grown (fun e => by have := (World.ownsRow.lt HOA.out _ e.symm).1; omega)
                    have hz5 := hg5.grown.size
                    have HLN : Hid ((giL gs i (j0G i b) mid k).length + 1 + 1 = (giL gs i (j0G i b) mid (k + 1)).length) := by
                      show _ = _
                      rw [hL, List.length_append, List.length_append]; rfl
                    have HO5 : Hid (w5.ownsRow Z 50 3 (.slice (some ⟨g2, 0, none⟩) (giL gs i (j0G i b) mid (k + 1)).length cap2) (giL gs i (j0G i b) mid (k + 1)).length ((giL gs i (j0G i b) mid (k + 1)).flatMap Gr.cs)) := by
                      show World.ownsRow _ _ _ _ _ _ _
                      rw [← HLN.out, hL, List.flatMap_append, List.flatMap_append, List.append_assoc]
                      exact ho5
                    clear ho5 hg5 hox hoA HOA HO aOx w0 w1 w2
                    rw [HLN.out]
                    go_wp2_with fail
                    exact ⟨⟨k + 1, by omega, by go_num, f2.symm ▸ rfl, HO5, aG5, hb5, by omega⟩, by simp [intOf]; omega⟩
            · obtain rfl : n = k := by omega
              have hfe := gi_final (mid := mid) (z := z) (nb := nb) (i := i) (b := b) hp.le hmI.out hzI.out
              rw [hgl] at hfe
              rcases hfe with ⟨f1, f2⟩ | ⟨f1, f2⟩
              · rw [f1] at hpv
                subst hpv
                have HX := Lib.hid (fun w' ho => HV.out u7 0 (giL gs i (j0G i b) mid n) w' ho (by rw [f2]; exact HFIN.out))
                clear HV HFIN f2 hp hs hr
                go_wp2_with fail
                exact bodyPost_ret (v := .tuple #[u7, .int .i64 0]) (by simp [results, Tryz.results55, go_sem]) rfl ⟨HX.out _ (own_mono HO.out hZw), hbr⟩
              · rw [f1] at hpv
                subst hpv
                have HX := Lib.hid (fun v w' ho => HV.out v 0 (giL gs i (j0G i b) mid n ++ [⟨ro, tb, nb⟩]) w' ho (by rw [f2]; exact HFIN.out))
                have hgl1 := gi_len (gs := gs) (i := i) (j0 := j0G i b) (k := n) hmid
                have hn1 : (giL gs i (j0G i b) mid n).length + 1 ≤ 1000000000 := by omega
                obtain ⟨u0, u1, u2⟩ := aGr.tri0
                clear HV HFIN f2 hp hs hr
                go_wp2_with (at_builtin; (refine wp_append1 rfl (.tmp 103) (.tmp 105) 23 rfl 50 3 32 _ Tryz.underlying23 info_grant rfl (by omega) HO.out #[.int .i64 ro, .string ⟨tb.toArray⟩, .int .i64 nb] 50 rfl rfl rfl rfl ?c1 (by omega) (by omega) hzr ?_))
                case c1 => exact ⟨rfl, rfl, rfl⟩
                intro g2 cap2 w5 ho5 hg5 hlt5
                have hb5 := hbr.grown hg5.grown (Nat.le_trans hZw hzr) (fun k hk => Nat.le_trans hZw (World.ownsRow.lt HO.out k hk).1)
                have HO5 : Hid (w5.ownsRow w.heap.size 50 3 (.slice (some ⟨g2, 0, none⟩) ((giL gs i (j0G i b) mid n).length + 1) cap2) (giL gs i (j0G i b) mid n ++ [(⟨ro, tb, nb⟩ : Gr)]).length ((giL gs i (j0G i b) mid n ++ [(⟨ro, tb, nb⟩ : Gr)]).flatMap Gr.cs)) := by
                  show World.ownsRow _ _ _ _ _ _ _
                  rw [List.length_append, List.flatMap_append]
                  exact own_mono ho5 hZw
                clear ho5 hg5 HO u0 u1 u2
                go_wp2_with fail
                exact bodyPost_ret (v := .tuple #[.slice (some ⟨g2, 0, none⟩) ((giL gs i (j0G i b) mid n).length + 1) cap2, .int .i64 0]) (by simp [results, Tryz.results55, go_sem]) rfl ⟨HX.out _ _ HO5.out, hb5⟩
        · have hc0 : (h == 0) = false := by simpa using h0
          clear h64 hcond h0
          have aG5 : At (w4.setCell ⟨w.heap.size + 1, 2, none⟩ (.int .i64 nb)) (w.heap.size + 1) 50 #[.int .i64 ro, .string ⟨tb.toArray⟩, .int .i64 nb] := aG4.put 2 (.int .i64 nb)
          have hb5 := hb4.setCell (p := ⟨w.heap.size + 1, 2, none⟩) (by show w.heap.size ≤ w.heap.size + 1; omega) (.int .i64 nb)
          have hnb2 : Go.bits BinOp.or IntKind.i64 h bi = nb := hnb
          have hz4 : w.heap.size + 2 ≤ w4.heap.size := by have := aG4.lt; omega
          have hz5 : (w4.setCell ⟨w.heap.size + 1, 2, none⟩ (.int .i64 nb)).heap.size = w4.heap.size := by simp [World.setCell]
          obtain ⟨z, hz⟩ : ∃ z : Bool, (nb == 0) = z := ⟨_, rfl⟩
          obtain ⟨v0, v1, v2⟩ := aG5.tri0
          clear hnb HGI aT4 aG4 hkc hh hb4
          go_wp2_with fail
          generalize w4.setCell ⟨w.heap.size + 1, 2, none⟩ (.int .i64 nb) = W5 at *
          obtain ⟨mid, hmide⟩ : ∃ mid : List Gr, (if nb = 0 then [] else [⟨ro, tb, nb⟩]) = mid := ⟨_, rfl⟩
          rw [hmide] at HFIN
          obtain ⟨Z, hZ⟩ : ∃ Z, W5.heap.size = Z := ⟨_, rfl⟩
          have hZw : w.heap.size ≤ Z := by omega
          have hmid : mid.length ≤ 1 := by rw [← hmide]; split <;> simp
          have hzI : Hid ((nb == 0) = z) := hz
          have hmI : Hid (mid = if nb = 0 then [] else [⟨ro, tb, nb⟩]) := hmide.symm
          clear hz hmide hnb2 g0 g1 g2 v0 v1 v2 k0
          go_loopw [7, 9, 53] (fun v pv iv wr => ∃ k : Nat, k ≤ n ∧ iv = .int .i64 k ∧ pv = .bool (pvF z (j0G i b) k) ∧ Hid (wr.ownsRow Z 50 3 v (giL gs i (j0G i b) mid k).length ((giL gs i (j0G i b) mid k).flatMap Gr.cs)) ∧ At wr (w.heap.size + 1) 50 #[.int .i64 ro, .string ⟨tb.toArray⟩, .int .i64 nb] ∧ Below w.heap.size w wr ∧ Z ≤ wr.heap.size) (fun _ _ iv _ => n - (intOf iv).toNat)
          case atStart => exact ⟨0, by omega, rfl, by rw [pvF_zero], by rw [gi_zero]; exact Lib.hid (World.ownsRow_nil _ _ _ 3), aG5, hb5, by omega⟩
          case round =>
            obtain ⟨k, hk, rfl, hpv, HO, aGr, hbr, hzr⟩ := hrel
            by_cases hlt : k < n
            · obtain ⟨bb, off, rfl, hbl, hcell⟩ := hr.2.2 (by omega)
              obtain ⟨c0, c1, c2⟩ := (hcell k hlt).keep fun i => hbr.cell (p := ⟨bb, i, none⟩) hbl
              have hhit := gi_hit (mid := mid) (k := k) hs hp (by omega)
              have hlow := gi_low (mid := mid) (k := k) hs hp
              have hhigh := gi_high (mid := mid) (k := k) hs hp (by omega)
              have hgl1 := gi_len (gs := gs) (i := i) (j0 := j0G i b) (k := k) hmid
              rw [show atG gs k = gs.getD k default from rfl] at hhit hlow hhigh
              clear hcell
              obtain ⟨o, hoo⟩ : ∃ o, gs.getD k default = o := ⟨_, rfl⟩
              rw [hoo] at hhit hlow hhigh c0 c1 c2
              obtain ⟨oro, otb, obi⟩ := o
              have HOO := Lib.hid hoo
              clear hoo
              simp only at c0 c1 c2 hhit hlow hhigh
              have hb0 := below_box wr (.cells #[.int .i64 oro, .string ⟨otb.toArray⟩, .int .i64 obi] 50)
              have hb3 := below_in hbr hb0
              have hox := World.ownsRow.alloc HO.out (.cells #[.int .i64 oro, .string ⟨otb.toArray⟩, .int .i64 obi] 50)
              have aGx := aGr.alloc (.cells #[.int .i64 oro, .string ⟨otb.toArray⟩, .int .i64 obi] 50)
              have aOx := At.fresh wr 50 #[.int .i64 oro, .string ⟨otb.toArray⟩, .int .i64 obi]
              obtain ⟨u0, u1, u2⟩ := aGx.tri0
              have hle0 : Z ≤ (wr.alloc (.cells #[.int .i64 oro, .string ⟨otb.toArray⟩, .int .i64 obi] 50)).heap.size := by simp; omega
              by_cases hm : oro = ro ∧ otb = tb
              · obtain ⟨rfl, rfl⟩ := hm
                obtain ⟨h1, h2, h3⟩ := hhit rfl rfl
                have q1 : (otb == otb) = true := by simp
                have hpv2 : pvF z (j0G i b) k = pvF z (j0G i b) (k + 1) := by
                  subst h2
                  have : j0G i true = i + 1 := rfl
                  unfold pvF
                  rw [this, decide_eq_false (by omega), decide_eq_false (by omega)]
                have HO3 : Hid ((wr.alloc (.cells #[.int .i64 oro, .string ⟨otb.toArray⟩, .int .i64 obi] 50)).ownsRow Z 50 3 u7 (giL gs i (j0G i b) mid (k + 1)).length ((giL gs i (j0G i b) mid (k + 1)).flatMap Gr.cs)) := by
                  show World.ownsRow _ _ _ _ _ _ _
                  rw [h3]; exact hox
                rw [hpv2] at hpv
                have hzx : Z ≤ (wr.alloc (.cells #[.int .i64 oro, .string ⟨otb.toArray⟩, .int .i64 obi] 50)).heap.size := hle0
                clear hhit hlow hhigh HO hox h1 h2 h3 hpv2
                have hpv3 := Lib.hid hpv
                subst hpv
                go_wp2_with fail
                exact ⟨⟨k + 1, by omega, by go_num, rfl, HO3, aGx, hb3, hzx⟩, by simp [intOf]; omega⟩
              · have hcs := gi_cases (z := z) (k := k) hs hp (by omega) (by rw [show atG gs k = gs.getD k default from rfl, HOO.out]; exact hm) hmI.out hzI.out
                rw [show atG gs k = gs.getD k default from rfl, HOO.out] at hcs
                simp only at hcs
                clear hhit hlow hhigh
                rcases hcs with ⟨f1, f2, hL⟩ | ⟨f1, f2, hL, hlt2⟩ | ⟨f1, f2, hL, hlt2⟩
                · rw [f1] at hpv
                  subst hpv
                  have hn1 : (giL gs i (j0G i b) mid k).length + 1 ≤ 1000000000 := by omega
                  by_cases e1 : oro = ro
                  · have q1 : (otb == tb) = false := by simpa using fun e => hm ⟨e1, e⟩
                    subst e1
                    clear hm
                    go_wp2_with (at_builtin; (refine wp_append1 rfl (.tmp 96) (.tmp 98) 23 rfl 50 3 32 _ Tryz.underlying23 info_grant rfl (by omega) hox #[.int .i64 oro, .string ⟨otb.toArray⟩, .int .i64 obi] 50 rfl rfl (World.size_alloc _ _) rfl ?c1 (by omega) (by omega) hle0 ?_))
                    case c1 => exact ⟨rfl, rfl, rfl⟩
                    intro g cap2 w5 ho5 hg5 hlt5
                    have hb5 := hb3.grown hg5.grown (Nat.le_trans hZw hle0) (fun k hk => Nat.le_trans hZw (World.ownsRow.lt hox k hk).1)
                    have aG5 := At.grown aGx hg5.grown (fun e => by have := (World.ownsRow.lt hox _ e.symm).1; omega)
                    have hz5 := hg5.grown.size
                    have HO5 : Hid (w5.ownsRow Z 50 3 (.slice (some ⟨g, 0, none⟩) (giL gs i (j0G i b) mid (k + 1)).length cap2) (giL gs i (j0G i b) mid (k + 1)).length ((giL gs i (j0G i b) mid (k + 1)).flatMap Gr.cs)) := by
                      show World.ownsRow _ _ _ _ _ _ _
                      rw [hL, List.length_append, List.flatMap_append]
                      exact ho5
                    have HLN : Hid ((giL gs i (j0G i b) mid k).length + 1 = (giL gs i (j0G i b) mid (k + 1)).length) := by
                      show _ = _
                      rw [hL, List.length_append]; rfl
                    clear ho5 hg5 hox HO aOx u0 u1 u2
                    rw [HLN.out]
                    go_wp2_with fail
                    exact ⟨⟨k + 1, by omega, by go_num, f2.symm ▸ rfl, HO5, aG5, hb5, by omega⟩, by simp [intOf]; omega⟩
                  · have q1 : (oro == ro) = false := by simpa using e1
                    clear hm e1
                    go_wp2_with (at_builtin; (refine wp_append1 rfl (.tmp 96) (.tmp 98) 23 rfl 50 3 32 _ Tryz.underlying23 info_grant rfl (by omega) hox #[.int .i64 oro, .string ⟨otb.toArray⟩, .int .i64 obi] 50 rfl rfl (World.size_alloc _ _) rfl ?c1 (by omega) (by omega) hle0 ?_))
                    case c1 => exact ⟨rfl, rfl, rfl⟩
                    intro g cap2 w5 ho5 hg5 hlt5
                    have hb5 := hb3.grown hg5.grown (Nat.le_trans hZw hle0) (fun k hk => Nat.le_trans hZw (World.ownsRow.lt hox k hk).1)
                    have aG5 := At.grown aGx hg5.grown (fun e => by have := (World.ownsRow.lt hox _ e.symm).1; omega)
                    have hz5 := hg5.grown.size
                    have HO5 : Hid (w5.ownsRow Z 50 3 (.slice (some ⟨g, 0, none⟩) (giL gs i (j0G i b) mid (k + 1)).length cap2) (giL gs i (j0G i b) mid (k + 1)).length ((giL gs i (j0G i b) mid (k + 1)).flatMap Gr.cs)) := by
                      show World.ownsRow _ _ _ _ _ _ _
                      rw [hL, List.length_append, List.flatMap_append]
                      exact ho5
                    have HLN : Hid ((giL gs i (j0G i b) mid k).length + 1 = (giL gs i (j0G i b) mid (k + 1)).length) := by
                      show _ = _
                      rw [hL, List.length_append]; rfl
                    clear ho5 hg5 hox HO aOx u0 u1 u2
                    rw [HLN.out]
                    go_wp2_with fail
                    exact ⟨⟨k + 1, by omega, by go_num, f2.symm ▸ rfl, HO5, aG5, hb5, by omega⟩, by simp [intOf]; omega⟩
                · rw [f1] at hpv
                  subst hpv
                  have hn1 : (giL gs i (j0G i b) mid k).length + 1 ≤ 1000000000 := by omega
                  by_cases e1 : oro = ro
                  · have q1 : (otb == tb) = false := by simpa using fun e => hm ⟨e1, e⟩
                    subst e1
                    rw [ltK_eq] at hlt2
                    have q2 : bytesLess tb otb = false := bl_asym hlt2
                    have q3 : bytesLess otb tb = true := hlt2
                    clear hm hlt2
                    go_wp2_with (at_builtin; (refine wp_append1 rfl (.tmp 96) (.tmp 98) 23 rfl 50 3 32 _ Tryz.underlying23 info_grant rfl (by omega) hox #[.int .i64 oro, .string ⟨otb.toArray⟩, .int .i64 obi] 50 rfl rfl (World.size_alloc _ _) rfl ?c1 (by omega) (by omega) hle0 ?_))
                    case c1 => exact ⟨rfl, rfl, rfl⟩
                    intro g cap2 w5 ho5 hg5 hlt5
                    have hb5 := hb3.grown hg5.grown (Nat.le_trans hZw hle0) (fun k hk => Nat.le_trans hZw (World.ownsRow.lt hox k hk).1)
                    have aG5 := At.grown aGx hg5.grown (fun e => by have := (World.ownsRow.lt hox _ e.symm).1; omega)
                    have hz5 := hg5.grown.size
                    have HO5 : Hid (w5.ownsRow Z 50 3 (.slice (some ⟨g, 0, none⟩) (giL gs i (j0G i b) mid (k + 1)).length cap2) (giL gs i (j0G i b) mid (k + 1)).length ((giL gs i (j0G i b) mid (k + 1)).flatMap Gr.cs)) := by
                      show World.ownsRow _ _ _ _ _ _ _
                      rw [hL, List.length_append, List.flatMap_append]
                      exact ho5
                    have HLN : Hid ((giL gs i (j0G i b) mid k).length + 1 = (giL gs i (j0G i b) mid (k + 1)).length) := by
                      show _ = _
                      rw [hL, List.length_append]; rfl
                    clear ho5 hg5 hox HO aOx u0 u1 u2
                    rw [HLN.out]
                    go_wp2_with fail
                    exact ⟨⟨k + 1, by omega, by go_num, f2.symm ▸ rfl, HO5, aG5, hb5, by omega⟩, by simp [intOf]; omega⟩
                  · have q1 : (oro == ro) = false := by simpa using e1
                    have q2 : ¬ ro < oro := fun h => by rw [ltK_gt h] at hlt2; cases hlt2
                    clear hm e1 hlt2
                    go_wp2_with (at_builtin; (refine wp_append1 rfl (.tmp 96) (.tmp 98) 23 rfl 50 3 32 _ Tryz.underlying23 info_grant rfl (by omega) hox #[.int .i64 oro, .string ⟨otb.toArray⟩, .int .i64 obi] 50 rfl rfl (World.size_alloc _ _) rfl ?c1 (by omega) (by omega) hle0 ?_))
                    case c1 => exact ⟨rfl, rfl, rfl⟩
                    intro g cap2 w5 ho5 hg5 hlt5
                    have hb5 := hb3.grown hg5.grown (Nat.le_trans hZw hle0) (fun k hk => Nat.le_trans hZw (World.ownsRow.lt hox k hk).1)
                    have aG5 := At.grown aGx hg5.grown (fun e => by have := (World.ownsRow.lt hox _ e.symm).1; omega)
                    have hz5 := hg5.grown.size
                    have HO5 : Hid (w5.ownsRow Z 50 3 (.slice (some ⟨g, 0, none⟩) (giL gs i (j0G i b) mid (k + 1)).length cap2) (giL gs i (j0G i b) mid (k + 1)).length ((giL gs i (j0G i b) mid (k + 1)).flatMap Gr.cs)) := by
                      show World.ownsRow _ _ _ _ _ _ _
                      rw [hL, List.length_append, List.flatMap_append]
                      exact ho5
                    have HLN : Hid ((giL gs i (j0G i b) mid k).length + 1 = (giL gs i (j0G i b) mid (k + 1)).length) := by
                      show _ = _
                      rw [hL, List.length_append]; rfl
                    clear ho5 hg5 hox HO aOx u0 u1 u2
                    rw [HLN.out]
                    go_wp2_with fail
                    exact ⟨⟨k + 1, by omega, by go_num, f2.symm ▸ rfl, HO5, aG5, hb5, by omega⟩, by simp [intOf]; omega⟩
                · rw [f1] at hpv
                  subst hpv
                  have hn1 : (giL gs i (j0G i b) mid k).length + 1 ≤ 1000000000 := by omega
                  have hn2 : (giL gs i (j0G i b) mid k).length + 1 + 1 ≤ 1000000000 := by omega
                  by_cases e1 : oro = ro
                  · have q1 : (otb == tb) = false := by simpa using fun e => hm ⟨e1, e⟩
                    subst e1
                    rw [ltK_eq] at hlt2
                    have q2 : bytesLess tb otb = true := hlt2
                    have q3 : bytesLess otb tb = false := bl_asym hlt2
                    clear hm hlt2
                    go_wp2_with (at_builtin; (refine wp_append1 rfl (.tmp 92) (.tmp 94) 23 rfl 50 3 32 _ Tryz.underlying23 info_grant rfl (by omega) hox #[.int .i64 oro, .string ⟨tb.toArray⟩, .int .i64 nb] 50 rfl rfl (World.size_alloc _ _) rfl ?c1 (by omega) (by omega) hle0 ?_))
                    case c1 => exact ⟨rfl, rfl, rfl⟩
                    intro g1 cap1 wA hoA hgA hltA
                    have hbA := hb3.grown hgA.grown (Nat.le_trans hZw hle0) (fun k hk => Nat.le_trans hZw (World.ownsRow.lt hox k hk).1)
                    have aGA := At.grown aGx hgA.grown (fun e => by have := (World.ownsRow.lt hox _ e.symm).1; omega)
                    have aOA := At.grown aOx hgA.grown (fun e => by have := (World.ownsRow.lt HO.out _ e.symm).2; omega)
                    have hzA := hgA.grown.size
                    obtain ⟨w0, w1, w2⟩ := aOA.tri0
                    have hleA : Z ≤ wA.heap.size := by omega
                    have HOA := Lib.hid hoA
                    clear u0 u1 u2 hgA
                    go_wp2_with (at_builtin; (refine wp_append1 rfl (.tmp 96) (.tmp 98) 23 rfl 50 3 32 _ Tryz.underlying23 info_grant rfl (by omega) HOA.out #[.int .i64 oro, .string ⟨otb.toArray⟩, .int .i64 obi] 50 rfl rfl rfl rfl ?c1 (by omega) (by omega) hleA ?_))
                    case c1 => exact ⟨rfl, rfl, rfl⟩
                    intro g2 cap2 w5 ho5 hg5 hlt5
                    have hb5 := hbA.grown hg5.grown (Nat.le_trans hZw hleA) (fun k hk => Nat.le_trans hZw (World.ownsRow.lt HOA.out k hk).1)
                    have aG5 := At.grown aGA hg5.grown (fun e => by have := (World.ownsRow.lt HOA.out _ e.symm).1; omega)
                    have hz5 := hg5.grown.size
                    have HLN : Hid ((giL gs i (j0G i b) mid k).length + 1 + 1 = (giL gs i (j0G i b) mid (k + 1)).length) := by
                      show _ = _
                      rw [hL, List.length_append, List.length_append]; rfl
                    have HO5 : Hid (w5.ownsRow Z 50 3 (.slice (some ⟨g2, 0, none⟩) (giL gs i (j0G i b) mid (k + 1)).length cap2) (giL gs i (j0G i b) mid (k + 1)).length ((giL gs i (j0G i b) mid (k + 1)).flatMap Gr.cs)) := by
                      show World.ownsRow _ _ _ _ _ _ _
                      rw [← HLN.out, hL, List.flatMap_append, List.flatMap_append, List.append_assoc]
                      exact ho5
                    clear ho5 hg5 hox hoA HOA HO aOx w0 w1 w2
                    rw [HLN.out]
                    go_wp2_with fail
                    exact ⟨⟨k + 1, by omega, by go_num, f2.symm ▸ rfl, HO5, aG5, hb5, by omega⟩, by simp [intOf]; omega⟩
                  · have q1 : (oro == ro) = false := by simpa using e1
                    have q2 : ro < oro := by
                      rcases Int.lt_trichotomy ro oro with h | h | h
                      · exact h
                      · exact absurd h.symm e1
                      · rw [ltK_gt h] at hlt2; cases hlt2
                    clear hm e1 hlt2
                    go_wp2_with (at_builtin; (refine wp_append1 rfl (.tmp 92) (.tmp 94) 23 rfl 50 3 32 _ Tryz.underlying23 info_grant rfl (by omega) hox #[.int .i64 ro, .string ⟨tb.toArray⟩, .int .i64 nb] 50 rfl rfl (World.size_alloc _ _) rfl ?c1 (by omega) (by omega) hle0 ?_))
                    case c1 => exact ⟨rfl, rfl, rfl⟩
                    intro g1 cap1 wA hoA hgA hltA
                    have hbA := hb3.grown hgA.grown (Nat.le_trans hZw hle0) (fun k hk => Nat.le_trans hZw (World.ownsRow.lt hox k hk).1)
                    have aGA := At.grown aGx hgA.grown (fun e => by have := (World.ownsRow.lt hox _ e.symm).1; omega)
                    have aOA := At.grown aOx hgA.grown (fun e => by have := (World.ownsRow.lt HO.out _ e.symm).2; omega)
                    have hzA := hgA.grown.size
                    obtain ⟨w0, w1, w2⟩ := aOA.tri0
                    have hleA : Z ≤ wA.heap.size := by omega
                    have HOA := Lib.hid hoA
                    clear u0 u1 u2 hgA
                    go_wp2_with (at_builtin; (refine wp_append1 rfl (.tmp 96) (.tmp 98) 23 rfl 50 3 32 _ Tryz.underlying23 info_grant rfl (by omega) HOA.out #[.int .i64 oro, .string ⟨otb.toArray⟩, .int .i64 obi] 50 rfl rfl rfl rfl ?c1 (by omega) (by omega) hleA ?_))
                    case c1 => exact ⟨rfl, rfl, rfl⟩
                    intro g2 cap2 w5 ho5 hg5 hlt5
                    have hb5 := hbA.grown hg5.grown (Nat.le_trans hZw hleA) (fun k hk => Nat.le_trans hZw (World.ownsRow.lt HOA.out k hk).1)
                    have aG5 := At.grown aGA hg5.grown (fun e => by have := (World.ownsRow.lt HOA.out _ e.symm).1; omega)
                    have hz5 := hg5.grown.size
                    have HLN : Hid ((giL gs i (j0G i b) mid k).length + 1 + 1 = (giL gs i (j0G i b) mid (k + 1)).length) := by
                      show _ = _
                      rw [hL, List.length_append, List.length_append]; rfl
                    have HO5 : Hid (w5.ownsRow Z 50 3 (.slice (some ⟨g2, 0, none⟩) (giL gs i (j0G i b) mid (k + 1)).length cap2) (giL gs i (j0G i b) mid (k + 1)).length ((giL gs i (j0G i b) mid (k + 1)).flatMap Gr.cs)) := by
                      show World.ownsRow _ _ _ _ _ _ _
                      rw [← HLN.out, hL, List.flatMap_append, List.flatMap_append, List.append_assoc]
                      exact ho5
                    clear ho5 hg5 hox hoA HOA HO aOx w0 w1 w2
                    rw [HLN.out]
                    go_wp2_with fail
                    exact ⟨⟨k + 1, by omega, by go_num, f2.symm ▸ rfl, HO5, aG5, hb5, by omega⟩, by simp [intOf]; omega⟩
            · obtain rfl : n = k := by omega
              have hfe := gi_final (mid := mid) (z := z) (nb := nb) (i := i) (b := b) hp.le hmI.out hzI.out
              rw [hgl] at hfe
              rcases hfe with ⟨f1, f2⟩ | ⟨f1, f2⟩
              · rw [f1] at hpv
                subst hpv
                have HX := Lib.hid (fun w' ho => HV.out u7 0 (giL gs i (j0G i b) mid n) w' ho (by rw [f2]; exact HFIN.out))
                clear HV HFIN f2 hp hs hr
                go_wp2_with fail
                exact bodyPost_ret (v := .tuple #[u7, .int .i64 0]) (by simp [results, Tryz.results55, go_sem]) rfl ⟨HX.out _ (own_mono HO.out hZw), hbr⟩
              · rw [f1] at hpv
                subst hpv
                have HX := Lib.hid (fun v w' ho => HV.out v 0 (giL gs i (j0G i b) mid n ++ [⟨ro, tb, nb⟩]) w' ho (by rw [f2]; exact HFIN.out))
                have hgl1 := gi_len (gs := gs) (i := i) (j0 := j0G i b) (k := n) hmid
                have hn1 : (giL gs i (j0G i b) mid n).length + 1 ≤ 1000000000 := by omega
                obtain ⟨u0, u1, u2⟩ := aGr.tri0
                clear HV HFIN f2 hp hs hr
                go_wp2_with (at_builtin; (refine wp_append1 rfl (.tmp 103) (.tmp 105) 23 rfl 50 3 32 _ Tryz.underlying23 info_grant rfl (by omega) HO.out #[.int .i64 ro, .string ⟨tb.toArray⟩, .int .i64 nb] 50 rfl rfl rfl rfl ?c1 (by omega) (by omega) hzr ?_))
                case c1 => exact ⟨rfl, rfl, rfl⟩
                intro g2 cap2 w5 ho5 hg5 hlt5
                have hb5 := hbr.grown hg5.grown (Nat.le_trans hZw hzr) (fun k hk => Nat.le_trans hZw (World.ownsRow.lt HO.out k hk).1)
                have HO5 : Hid (w5.ownsRow w.heap.size 50 3 (.slice (some ⟨g2, 0, none⟩) ((giL gs i (j0G i b) mid n).length + 1) cap2) (giL gs i (j0G i b) mid n ++ [(⟨ro, tb, nb⟩ : Gr)]).length ((giL gs i (j0G i b) mid n ++ [(⟨ro, tb, nb⟩ : Gr)]).flatMap Gr.cs)) := by
                  show World.ownsRow _ _ _ _ _ _ _
                  rw [List.length_append, List.flatMap_append]
                  exact own_mono ho5 hZw
                clear ho5 hg5 HO u0 u1 u2
                go_wp2_with fail
                exact bodyPost_ret (v := .tuple #[.slice (some ⟨g2, 0, none⟩) ((giL gs i (j0G i b) mid n).length + 1) cap2, .int .i64 0]) (by simp [results, Tryz.results55, go_sem]) rfl ⟨HX.out _ _ HO5.out, hb5⟩
end Go.Proofs.YtnhalfdddcjicaaGreat
