/- Put's results as rows; the order of two grants plays no part. -/
import Derived.Test.YteehccklnidofaaQGrR
namespace Go.Proofs.Yteehccklnidofaa
open Go.RowKit

theorem ok_of_good {g : Gr} (h : goodG g = true) : g.Ok := by
  obtain ⟨h1, h2, h3⟩ := good_parts h
  have hl : g.table.length ≤ 12 := by
    by_cases e : 12 < g.table.length
    · rw [name_long e] at h2; cases h2
    · omega
  exact ⟨⟨by omega, by omega⟩, ⟨by omega, by omega⟩, by unfold maxLen; omega⟩
theorem own_rowG {w : World} {base : Nat} {v : Value} {gs : List Gr} (h : w.ownsRow base 24 3 v gs.length (gs.flatMap Gr.cs)) (hok : ∀ g ∈ gs, g.Ok) : ∃ A c, v = .slice A gs.length c ∧ RowG w A gs.length gs ∧ gs.length ≤ c := by
  rcases h.2 with ⟨rfl, h0⟩ | ⟨g, cap, cur, rfl, hbg, hg, hnc, hcm, hcs, htk⟩
  · rw [h0]
    have : gs = [] := List.eq_nil_of_length_eq_zero h0
    subst this
    exact ⟨none, 0, rfl, ⟨rfl, fun _ h => (by cases h), fun h => absurd h (by omega)⟩, Nat.le_refl _⟩
  · refine ⟨_, cap, rfl, ⟨rfl, hok, fun hn => ⟨g, 0, rfl, (Array.getElem?_eq_some_iff.1 hg).1, fun j hj => ?_⟩⟩, hnc⟩
    have hA : At w g 24 cur := hg
    have hc : ∀ i, i < 3 → w.cell? ⟨g, 0 + j * 3 + i, none⟩ = (Gr.cs (gs.getD j default))[i]? := fun i hi => by
      rw [Nat.zero_add, At.cell hA, ← flat_at Gr.cs 3 default (fun _ => rfl) gs j hj i hi, ← htk, List.getElem?_take, if_pos (by omega)]
      simp
    exact ⟨hc 0 (by omega), hc 1 (by omega), hc 2 (by omega)⟩
theorem put_ok {gs gs' : List Gr} {g : Gr} {er : Int} (h : PutR gs g er gs') (hg : goodG g = true) (hl : gs.length < 64) : er = 0 ∧ gs'.length ≤ gs.length + 1 := by
  rcases h with ⟨h, _⟩ | ⟨_, i, b, hp, h⟩
  · rw [hg] at h; cases h
  rcases h with ⟨_, h, _⟩ | ⟨_, _, h, rfl⟩ | ⟨_, h, rfl⟩
  · omega
  · exact ⟨h, by simp; omega⟩
  · exact ⟨h, by rw [List.length_set]; omega⟩
/-- What a good Put leaves, as a row. -/
def PutOk (gs : List Gr) (g : Gr) (B : Nat) (e : Ending) (w' : World) : Prop := ∃ A c gs', e = .returned (.tuple #[.slice A gs'.length c, .int .i64 0]) ∧ RowG w' A gs'.length gs' ∧ gs'.length ≤ c ∧ SortedG gs' ∧ gs'.length ≤ gs.length + 1 ∧
  (∀ r t, bitsG r t gs' = if r = g.role ∧ t = g.table then orI (bitsG r t gs) g.bits else bitsG r t gs) ∧ (∀ k, A.map (·.block) = some k → B ≤ k)
theorem putOk_any (A : Option Addr) (n cap : Nat) (gs : List Gr) (g : Gr) (w : World) (hr : RowG w A n gs) (hs : SortedG gs) (hg : goodG g = true) (hn : n < 64) :
    Calls Try.prog 11 #[.slice A n cap, g.val] w fun e w' => PutOk gs g w.heap.size e w' ∧ Below w.heap.size w w' := by
  have hgl := hr.1
  refine (gput_any A n cap gs g w hr (by omega) (ok_of_good hg)).mono ?_
  rintro e w' ⟨⟨v, er, gs', rfl, ho, hR⟩, hb⟩
  obtain ⟨rfl, hle⟩ := put_ok hR hg (by omega)
  obtain ⟨hs', hbits⟩ := put_spec hs hR
  obtain ⟨A', c, rfl, hrow, hc⟩ := own_rowG ho fun x hx => ok_of_good (((sorted_pw _).1 hs').2.1 x hx)
  refine ⟨⟨A', c, gs', rfl, hrow, hc, hs', hle, hbits, fun k hk => ?_⟩, hb⟩
  cases A' with
  | none => cases hk
  | some a => exact (ho.lt k (by simpa [Value.ownBlock] using hk)).1
theorem put_swap {gs x1 x2 y1 y2 : List Gr} {a b : Gr} (hs : SortedG gs) (ga : goodG a = true) (gb : goodG b = true) (sx : SortedG x2) (sy : SortedG y2)
    (h1 : ∀ r t, bitsG r t x1 = if r = a.role ∧ t = a.table then orI (bitsG r t gs) a.bits else bitsG r t gs) (h2 : ∀ r t, bitsG r t x2 = if r = b.role ∧ t = b.table then orI (bitsG r t x1) b.bits else bitsG r t x1)
    (h3 : ∀ r t, bitsG r t y1 = if r = b.role ∧ t = b.table then orI (bitsG r t gs) b.bits else bitsG r t gs) (h4 : ∀ r t, bitsG r t y2 = if r = a.role ∧ t = a.table then orI (bitsG r t y1) a.bits else bitsG r t y1) : x2 = y2 := by
  refine sorted_ext sx sy fun r t => ?_
  have hf := bits_five ((sorted_pw _).1 hs).2.1 r t
  rw [h2, h4, h1, h3]
  by_cases ea : r = a.role ∧ t = a.table
  · by_cases eb : r = b.role ∧ t = b.table
    · simp only [if_pos ea, if_pos eb]
      exact or_swap hf (five_of ga) (five_of gb)
    · simp only [if_pos ea, if_neg eb]
  · by_cases eb : r = b.role ∧ t = b.table
    · simp only [if_neg ea, if_pos eb]
    · simp only [if_neg ea, if_neg eb]
theorem put_again {gs x1 x2 z : List Gr} {a b : Gr} (hs : SortedG gs) (ga : goodG a = true) (gb : goodG b = true) (sx : SortedG x2) (sz : SortedG z)
    (h1 : ∀ r t, bitsG r t x1 = if r = a.role ∧ t = a.table then orI (bitsG r t gs) a.bits else bitsG r t gs) (h2 : ∀ r t, bitsG r t x2 = if r = b.role ∧ t = b.table then orI (bitsG r t x1) b.bits else bitsG r t x1)
    (h3 : ∀ r t, bitsG r t z = if r = a.role ∧ t = a.table then orI (bitsG r t x2) a.bits else bitsG r t x2) : x2 = z := by
  refine sorted_ext sx sz fun r t => ?_
  have hf := bits_five ((sorted_pw _).1 hs).2.1 r t
  rw [h3, h2, h1]
  by_cases ea : r = a.role ∧ t = a.table
  · by_cases eb : r = b.role ∧ t = b.table
    · simp only [if_pos ea, if_pos eb]
      rw [or_swap (five_or hf (five_of ga)) (five_of gb) (five_of ga), or_twice hf (five_of ga)]
    · simp only [if_pos ea, if_neg eb]
      rw [or_twice hf (five_of ga)]
  · rw [if_neg ea, if_neg ea]
end Go.Proofs.Yteehccklnidofaa
