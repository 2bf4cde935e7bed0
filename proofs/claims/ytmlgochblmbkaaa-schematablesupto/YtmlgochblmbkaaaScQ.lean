/- The walks of copyExprs, copyTable and Find. -/
import Derived.Test.YtmlgochblmbkaaaScP
namespace Go.Proofs.Ytmlgochblmbkaaa
open Go.RowKit

/-- Another slice for the operands. -/
def Ex.withArgs (e : Ex) (A : Option Addr) (n cap : Nat) (arg : Nat → Ex) : Ex := .mk e.op e.col e.v A n cap arg
theorem own_block {α : Type} {w : World} {base : Nat} {e : TypeId} {v : Value} {n : Nat} (f : α → List Value) (d : α) (hf : ∀ a, (f a).length = 6) (l : List α) (h : w.ownsRow base e 6 v n (l.flatMap f)) (hn : l.length = n) (h0 : 0 < n) :
    ∃ g c cur, v = .slice (some ⟨g, 0, none⟩) n c ∧ base ≤ g ∧ At w g e cur ∧ ∀ j, j < n → ∀ i, i < 6 → cur[j * 6 + i]? = (f (l.getD j d))[i]? := by
  rcases h.2 with ⟨rfl, rfl⟩ | ⟨g, cap, cur, rfl, hb, hg, _, _, _, htk⟩
  · omega
  · refine ⟨g, cap, cur, rfl, hb, hg, fun j hj i hi => ?_⟩
    rw [← flat_at f 6 d hf l j (by omega) i hi, ← htk, List.getElem?_take, if_pos (by omega)]
    simp
theorem getD_fn (n : Nat) (f : Nat → Ex) (j : Nat) (hj : j < n) : ((List.range n).map f).getD j .nil = f j := by simp [hj]
theorem wtE_ge (e : Ex) (h : e ≠ .nil) : 1 ≤ wtE e := by
  cases e with
  | nil => exact absurd rfl h
  | mk => rw [wtE]; omega

/-- Block g is a row of these expressions, free to be written. -/
def RowOf (w : World) (g n : Nat) (x : Nat → Ex) : Prop := ∃ cur, At w g 57 cur ∧ ∀ j, j < n → ∀ i, i < 6 → cur[j * 6 + i]? = (Ex.cs (x j))[i]?
theorem RowOf.lt {w : World} {g n : Nat} {x : Nat → Ex} (h : RowOf w g n x) : g < w.heap.size := by obtain ⟨_, h, _⟩ := h; exact h.lt
theorem RowOf.cells {w : World} {g n : Nat} {x : Nat → Ex} (h : RowOf w g n x) {j : Nat} (hj : j < n) : CellsE w g (j * 6) (x j) := by
  obtain ⟨cur, hA, hc⟩ := h
  have k0 := hc j hj 0 (by omega)
  have k1 := hc j hj 1 (by omega)
  have k2 := hc j hj 2 (by omega)
  have k3 := hc j hj 3 (by omega)
  have k4 := hc j hj 4 (by omega)
  have k5 := hc j hj 5 (by omega)
  exact ⟨(hA.cell _).trans k0, (hA.cell _).trans k1, (hA.cell _).trans k2, (hA.cell _).trans k3, (hA.cell _).trans k4, (hA.cell _).trans k5⟩
theorem RowOf.unfrozen {w : World} {g n : Nat} {x : Nat → Ex} (h : RowOf w g n x) (i : Nat) : w.frozen? ⟨g, i, none⟩ = false := by obtain ⟨_, h, _⟩ := h; exact h.unfrozen i
theorem RowOf.below {w w' : World} {g n : Nat} {x : Nat → Ex} (h : RowOf w g n x) (hb : Below w.heap.size w w') : RowOf w' g n x := by
  obtain ⟨cur, hA, hc⟩ := h
  exact ⟨cur, hA.below hb hA.lt, hc⟩
theorem RowOf.put {w : World} {g n k : Nat} {x y : Nat → Ex} (h : RowOf w g n x) (hk : k < n) (A : Option Addr) (m c : Nat) (arg : Nat → Ex) (hy : ∀ j, j < n → y j = if j = k then (x k).withArgs A m c arg else x j) :
    RowOf (w.setCell ⟨g, k * 6 + 5, none⟩ (.slice A m c)) g n y := by
  obtain ⟨cur, hA, hc⟩ := h
  refine ⟨_, hA.put (k * 6 + 5) (.slice A m c), fun j hj i hi => ?_⟩
  rw [hy j hj]
  have hsz : k * 6 + 5 < cur.size := by
    have := hc k hk 5 (by omega)
    rcases Nat.lt_or_ge (k * 6 + 5) cur.size with h | h
    · exact h
    · rw [Array.getElem?_eq_none h] at this
      simp [Ex.cs] at this
  by_cases hjk : j = k
  · subst hjk
    rw [if_pos rfl]
    by_cases hi5 : i = 5
    · subst hi5
      rw [Array.getElem?_setIfInBounds_self_of_lt hsz]
      rfl
    · rw [Array.getElem?_setIfInBounds_ne (by omega), hc j hj i hi]
      match i, hi, hi5 with
      | 0, _, _ => rfl
      | 1, _, _ => rfl
      | 2, _, _ => rfl
      | 3, _, _ => rfl
      | 4, _, _ => rfl
      | 5, _, h => exact absurd rfl h
  · rw [if_neg hjk, Array.getElem?_setIfInBounds_ne (by omega), hc j hj i hi]

set_option maxRecDepth 100000 in
set_option maxHeartbeats 6400000 in
theorem copyX_any (e : Ex) : ∀ w : World, InE w e → wtE e ≤ 2000000 → Calls Try.prog 60 #[.slice e.A e.n e.cap] w fun en w' =>
    ∃ A' cap' arg', en = .returned (.slice A' e.n cap') ∧ RowP (fun b => w.heap.size ≤ b) w' A' e.n arg' ∧ simE e (e.withArgs A' e.n cap' arg') ∧ Below w.heap.size w w' := by
  induction e with
  | nil => intro w h; exact h.elim
  | mk op col v A n cap arg ih =>
    intro w hin hwt
    rw [InE] at hin
    obtain ⟨-, -, -, hn, harg⟩ := hin
    rw [wtE] at hwt
    have hone : ∀ j, j < n → 1 ≤ wtE (arg j) := fun j hj => by
      obtain ⟨b, off, _, _, hc⟩ := harg (by omega)
      refine wtE_ge _ (fun e => ?_)
      have := (hc j hj).2
      rw [e] at this
      exact this.elim
    have hnn : n ≤ 2000000 := by
      have : ∀ m, m ≤ n → m ≤ sumN m fun j => wtE (arg j) := fun m => by
        induction m with
        | zero => intro _; omega
        | succ m im => intro hm; rw [sumN_succ]; have := im (by omega); have := hone m (by omega); omega
      have := this n (Nat.le_refl _)
      omega
    have hwj : ∀ j, j < n → wtE (arg j) ≤ 2000000 := fun j hj => by have : wtE (arg j) ≤ sumN n fun j => wtE (arg j) := sumN_at (fun j => wtE (arg j)) hj; omega
    have hcl := cloneE_any A n cap ((List.range n).map arg) w (by simp) (by omega) (fun h0 => by
      obtain ⟨b, off, e1, e2, e3⟩ := harg h0
      refine ⟨b, off, e1, fun j hj i v hv => ?_⟩
      rw [getD_fn n arg j hj] at hv
      obtain ⟨c0, c1, c2, c3, c4, c5⟩ := (e3 j hj).1
      match i, hv with
      | 0, hv => injection hv with hv; subst hv; exact c0
      | 1, hv => injection hv with hv; subst hv; exact c1
      | 2, hv => injection hv with hv; subst hv; exact c2
      | 3, hv => injection hv with hv; subst hv; exact c3
      | 4, hv => injection hv with hv; subst hv; exact c4
      | 5, hv => injection hv with hv; subst hv; exact c5
      | i + 6, hv => simp [Ex.cs] at hv)
    simp only [Ex.A, Ex.n, Ex.cap, Ex.withArgs, Ex.op, Ex.col, Ex.v]
    go_enter Try.func60, Try.ntmps60
    go_wp2_with fail
    refine hcl.mono ?_
    rintro en w2 ⟨x, rfl, hown, b2⟩
    by_cases h0 : n = 0
    · subst h0
      obtain ⟨A', c', rfl, -⟩ := own_cells Ex.cs .nil (fun _ => rfl) _ hown (by simp)
      clear hcl harg ih hone hwj hown
      go_wp2_with fail
      go_loopw [8] (fun i wr => i = .int .i64 0 ∧ wr = w2) (fun _ _ => 0)
      case atStart => exact ⟨rfl, rfl⟩
      case round =>
        obtain ⟨rfl, rfl⟩ := hrel
        go_wp2_with fail
        go_ret
        exact ⟨A', c', fun _ => .nil, rfl, fun h => absurd h (by omega), by rw [simE]; exact ⟨rfl, rfl, rfl, rfl, fun j hj => absurd hj (by omega)⟩, b2⟩
    obtain ⟨g, c', cur, rfl, hg0, hAt, hcur⟩ := own_block Ex.cs .nil (fun _ => rfl) _ hown (by simp) (by omega)
    have hR : RowOf w2 g n arg := ⟨cur, hAt, fun j hj i hi => by rw [hcur j hj i hi, getD_fn n arg j hj]⟩
    clear hcl hown hcur hAt
    unfold maxLen at hn
    go_wp2_with fail
    go_loopw [8] (fun i wr => ∃ (k : Nat) (new : Nat → Ex), k ≤ n ∧ i = .int .i64 k ∧ RowOf wr g n (fun j => if j < k then new j else arg j) ∧ Below w.heap.size w wr ∧
      Hid (∀ j, j < k → InP (fun b => w.heap.size ≤ b ∧ b ≠ g) wr (new j) ∧ simE (arg j) (new j))) (fun i _ => n - (intOf i).toNat)
    case atStart =>
      exact ⟨0, fun _ => .nil, by omega, rfl, by simpa using hR, b2, fun j hj => absurd hj (by omega)⟩
    case round =>
      clear hR
      obtain ⟨k, new, hk, rfl, hR, hbr, hnew⟩ := hrel
      by_cases hlt : k < n
      · have hik := harg (by omega)
        obtain ⟨b, off, -, -, hc⟩ := hik
        have hin : InE w (arg k) := (hc k hlt).2
        clear hc
        have hcall := ih k wr (hin.below hbr) (hwj k hlt)
        have cells := hR.cells hlt
        rw [if_neg (by omega)] at cells
        obtain ⟨-, -, -, -, -, c5⟩ := cells
        have hki : (k : Int) < (n : Int) := by omega
        have hltg := hR.lt
        have hIok : I64 (arg k).op ∧ I64 (arg k).col ∧ (arg k).v.Ok ∧ (arg k).n ≤ maxLen := by
          cases hak : arg k with
          | nil => rw [hak] at hin; exact hin.elim
          | mk o1 o2 o3 o4 o5 o6 o7 => rw [hak, InE] at hin; exact ⟨hin.1, hin.2.1, hin.2.2.1, hin.2.2.2.1⟩
        clear ih
        go_wp2_with fail
        refine hcall.mono ?_
        rintro en w3 ⟨A3, cap3, arg3, rfl, hrow3, hsim3, b3⟩
        have hR3 := hR.below b3
        have d5 : w3.cell? ⟨g, k * 6 + 5, none⟩ = some (.slice (arg k).A (arg k).n (arg k).cap) := (b3.cell (p := ⟨g, k * 6 + 5, none⟩) hltg).trans c5
        have z5 := hR3.unfrozen (k * 6 + 5)
        have hbw3 := below_in hbr b3
        have hR4 := hR3.put hlt A3 (arg k).n cap3 arg3 (y := fun j => if j < k + 1 then (if j = k then (arg k).withArgs A3 (arg k).n cap3 arg3 else new j) else arg j) (fun j hj => by
          by_cases hjk : j = k
          · subst hjk; rw [if_pos (by omega), if_pos rfl, if_pos rfl, if_neg (by omega)]
          · rw [if_neg hjk, if_neg hjk]
            by_cases hlk : j < k
            · rw [if_pos (by omega), if_pos hlk]
            · rw [if_neg (by omega), if_neg hlk])
        have hlt3 : g < w3.heap.size := Nat.lt_of_lt_of_le hltg b3.size
        have hnew4 : Hid (∀ j, j < k + 1 → InP (fun b => w.heap.size ≤ b ∧ b ≠ g) (w3.setCell ⟨g, k * 6 + 5, none⟩ (.slice A3 (arg k).n cap3)) (if j = k then (arg k).withArgs A3 (arg k).n cap3 arg3 else new j) ∧ simE (arg j) (if j = k then (arg k).withArgs A3 (arg k).n cap3 arg3 else new j)) := fun j hj => by
          have hset : w3.heap.size ≤ (w3.setCell ⟨g, k * 6 + 5, none⟩ (.slice A3 (arg k).n cap3)).heap.size := by simp [World.setCell]
          by_cases hjk : j = k
          · subst hjk
            rw [if_pos rfl]
            refine ⟨?_, hsim3⟩
            unfold Ex.withArgs
            rw [InP]
            refine ⟨hIok.1, hIok.2.1, hIok.2.2.1, hIok.2.2.2, ?_⟩
            exact hrow3.keep hset (fun b hb _ => Below.heap_setCell _ _ _ _ (fun e : b = g => by have hw := hbr.size; have h9 : (fun b => wr.heap.size ≤ b) b := hb; have h8 : wr.heap.size ≤ b := h9; omega)) (fun b hb => ⟨by have := hbr.size; omega, by omega⟩)
          · rw [if_neg hjk]
            have h1 := hnew.out j (by omega)
            refine ⟨?_, h1.2⟩
            have h2 := h1.1.keep b3.size (fun b _ hlt => b3.block b hlt) (fun b hb => hb) (q := fun b => w.heap.size ≤ b ∧ b ≠ g)
            exact h2.keep hset (fun b hb _ => Below.heap_setCell _ _ _ _ hb.2) (fun b hb => hb)
        clear hcall c5 hnew hR hR3
        go_wp2_with fail
        exact ⟨⟨k + 1, fun j => if j = k then (arg k).withArgs A3 (arg k).n cap3 arg3 else new j, by omega, by go_num, hR4, hbw3.setCell (p := ⟨g, k * 6 + 5, none⟩) hg0 _, hnew4⟩, by simp [intOf]; omega⟩
      · obtain rfl : k = n := by omega
        clear ih hwj hone
        go_wp2_with fail
        go_ret
        refine ⟨_, c', new, rfl, fun _ => ⟨g, 0, rfl, hg0, hR.lt, fun j hj => ?_⟩, ?_, hbr⟩
        · have h1 := hR.cells hj
          rw [if_pos hj] at h1
          rw [Nat.zero_add]
          exact ⟨h1, (hnew.out j hj).1.keep (Nat.le_refl _) (fun _ _ _ => rfl) (fun b hb => hb.1)⟩
        · rw [simE]
          exact ⟨rfl, rfl, rfl, rfl, fun j hj => (hnew.out j hj).2⟩
end Go.Proofs.Ytmlgochblmbkaaa
