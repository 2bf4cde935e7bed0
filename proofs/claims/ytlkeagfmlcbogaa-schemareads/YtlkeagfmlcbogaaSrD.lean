/- Lists as the reader takes them: the loop's state; takeList for columns and grants. -/
import Derived.Test.YtlkeagfmlcbogaaSrC
namespace Go.Proofs.Ytlkeagfmlcbogaa
open Go.RowKit

/-- Behind k items: what was taken, what is left. -/
def Inv {α : Type} (d : List UInt8 → Option (α × List UInt8)) (s0 : Option (List UInt8)) (L : List α) (st : Option (List UInt8)) : Prop :=
  ∀ m, s0.bind (decL d (L.length + m)) = st.bind fun l => (decL d m l).map fun y => (L ++ y.1, y.2)
theorem inv_zero {α : Type} (d : List UInt8 → Option (α × List UInt8)) (s0 : Option (List UInt8)) : Inv d s0 [] s0 := by
  intro m
  cases s0 with
  | none => rfl
  | some l =>
    rw [Option.bind_some, Option.bind_some, List.length_nil, Nat.zero_add]
    cases decL d m l with
    | none => rfl
    | some y => rfl
theorem inv_succ {α : Type} {d : List UInt8 → Option (α × List UInt8)} {s0 : Option (List UInt8)} {L : List α} {st : Option (List UInt8)} {x : α} (h : Inv d s0 L st) (hx : Got d st x) : Inv d s0 (L ++ [x]) (nxt d st) := by
  intro m
  have h1 := h (m + 1)
  rw [List.length_append, List.length_cons, List.length_nil, Nat.zero_add, Nat.add_assoc, Nat.add_comm 1 m, h1]
  cases st with
  | none => rfl
  | some l =>
    rw [Option.bind_some, decL]
    cases hd : d l with
    | none => rw [nxt_none hd]; rfl
    | some y =>
      obtain ⟨x', r⟩ := y
      rw [nxt_some hd, Option.bind_some, Option.bind_some, got_some hx hd]
      simp only
      cases decL d m r with
      | none => rfl
      | some z => simp
theorem inv_end {α : Type} {bound : Int} {d : List UInt8 → Option (α × List UInt8)} {st0 st : Option (List UInt8)} {L : List α} {n : Nat} (hN : Got (decN bound) st0 n) (h : Inv d (nxt (decN bound) st0) L st) (hn : L.length = n) :
    Got (decM bound d) st0 L ∧ nxt (decM bound d) st0 = st := by
  have h0 := h 0
  rw [Nat.add_zero] at h0
  have he : ∀ l : List UInt8, (decL d 0 l).map (fun y => (L ++ y.1, y.2)) = some (L, l) := fun l => by rw [decL, Option.map_some, List.append_nil]
  cases st0 with
  | none =>
    refine ⟨got_nil _ _, ?_⟩
    cases st with
    | none => rfl
    | some l => rw [Option.bind_some, he] at h0; cases h0
  | some l0 =>
    cases hd : decN bound l0 with
    | none =>
      rw [nxt_none hd] at h0
      have hm : decM bound d l0 = none := by rw [decM_is, hd]; rfl
      rw [nxt_none hm]
      refine ⟨fun y r e => ?_, ?_⟩
      · rw [Option.bind_some, hm] at e; cases e
      · cases st with
        | none => rfl
        | some l => rw [Option.bind_some, he] at h0; cases h0
    | some y =>
      obtain ⟨n', q⟩ := y
      have hnn := got_some hN hd
      subst hnn
      rw [nxt_some hd, Option.bind_some, hn] at h0
      have hm : decM bound d l0 = decL d n q := by rw [decM_is, hd]; rfl
      cases st with
      | none =>
        have h0' : decL d n q = none := h0
        rw [h0'] at hm
        rw [nxt_none hm]
        refine ⟨fun y r e => ?_, rfl⟩
        rw [Option.bind_some, hm] at e; cases e
      | some l =>
        rw [Option.bind_some, he] at h0
        rw [h0] at hm
        rw [nxt_some hm]
        refine ⟨fun y r e => ?_, rfl⟩
        rw [Option.bind_some, hm] at e; injection e with e; injection e
theorem len_N (bound : Int) (st : Option (List UInt8)) : lenO (nxt (decN bound) st) ≤ lenO st := by
  have h := len_I st
  cases st with
  | none => exact Nat.le_refl _
  | some l =>
    cases hd : decN bound l with
    | none => rw [nxt_none hd]; exact Nat.zero_le _
    | some y =>
      obtain ⟨n, q⟩ := y
      rw [nxt_some hd]
      unfold decN at hd
      cases hi : decI l with
      | none => rw [hi] at hd; cases hd
      | some x =>
        obtain ⟨i, q'⟩ := x
        rw [nxt_some hi] at h
        rw [hi, Option.bind_some] at hd
        simp only at hd
        split at hd
        · cases hd
        · injection hd with hd; injection hd with e1 e2; rw [← e2]; exact h
theorem len_C (st : Option (List UInt8)) : lenO (nxt decC st) ≤ lenO st := by
  rw [decC_nxt]
  exact Nat.le_trans (len_B _) (Nat.le_trans (len_B _) (Nat.le_trans (len_I _) (Nat.le_trans (len_I _) (Nat.le_trans (len_S _) (len_S _)))))
theorem len_G (st : Option (List UInt8)) : lenO (nxt decG st) ≤ lenO st := by
  rw [decG_nxt]
  exact Nat.le_trans (len_S _) (Nat.le_trans (len_I _) (len_I _))

theorem own_keep2 {w w' : World} {base : Nat} {e : TypeId} {size n m : Nat} {v : Value} {xs : List Value} (h : w.ownsRow base e size v n xs) (hb : w.grownBy w' (some m)) (hm : m < base) : w'.ownsRow base e size v n xs := by
  refine ⟨h.1, ?_⟩
  rcases h.2 with k | ⟨g, cap, cur, rfl, hg, hh, k⟩
  · exact .inl k
  · refine .inr ⟨g, cap, cur, rfl, hg, ?_, k⟩
    have hl : g < w.heap.size := by
      rcases Nat.lt_or_ge g w.heap.size with q | q
      · exact q
      · rw [Array.getElem?_eq_none q] at hh; cases hh
    rw [hb.block g hl (fun he => by injection he; omega)]; exact hh
theorem grown_own {w w1 w2 : World} {b : Nat} {row : Option Nat} (h : w.grownBy w1 (some b)) (k : w1.grownBy w2 row) (hr : ∀ g, row = some g → w.heap.size ≤ g) : w.grownBy w2 (some b) :=
  ⟨k.os.trans h.os, k.tape.trans h.tape, k.output.trans h.output, Nat.le_trans h.size k.size, fun j hj hne => (k.block j (Nat.lt_of_lt_of_le hj h.size) (fun e => by have := hr j e.symm; omega)).trans (h.block j hj hne)⟩
theorem info_grant : (Try.prog.info? 48).map (fun i => (i.zero, i.size, i.bytes)) = some (some (.agg #[.int .i64 0, .string ⟨#[]⟩, .int .i64 0]), 3, 32) := by kernel_rfl
end Go.Proofs.Ytlkeagfmlcbogaa
