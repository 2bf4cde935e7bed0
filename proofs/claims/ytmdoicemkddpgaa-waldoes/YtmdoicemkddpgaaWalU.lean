/- Logs and lists of texts beside one another: what the one does leaves the other alone. -/
import Derived.Test.YtmdoicemkddpgaaWalT
namespace Go.Proofs.Ytmdoicemkddpgaa
open Go.RowKit
section
variable {w w' : World} {base base' B L b c : Nat} {v v' u : Value} {D : Dk} {ss : List (List UInt8)} {xs : List UInt8}
theorem OwnsS.apart_bts (h : OwnsS w base u ss) (hB : Bts w base' 5 v xs) {g : Nat} (hg : u.ownBlock = some g) : v.ownBlock ≠ some g := by
  rcases h.2 with ⟨rfl, _⟩ | ⟨g', cap, cur, rfl, _, hh, _⟩
  · simp [Value.ownBlock] at hg
  · obtain rfl : g' = g := Option.some.inj hg
    exact hB.apart hh (by decide)
/-- What a log does leaves a list alone. -/
theorem OwnsS.moved (h : OwnsS w base u ss) (hL : Lg w base' L b v D c) (k : Moved w b L v w' v') : OwnsS w' base u ss :=
  h.keep fun g hg => k.block g (h.lt g hg).2 (fun e => h.apart hL.dsk.at_ (by decide) (by rw [← e]; exact hg)) (fun e => h.apart hL.log (by decide) (by rw [← e]; exact hg)) (fun e => h.apart_bts hL.dsk.bts hg e.symm)
/-- What becomes of a list leaves a log alone. -/
theorem Lg.grown (hL : Lg w base' L b v D c) (h : OwnsS w base u ss) (k : w.grownBy w' u.ownBlock) : Lg w' base' L b v D c :=
  ⟨hL.log.grown k (fun e => h.apart hL.log (by decide) e.symm),
   ⟨hL.dsk.at_.grown k (fun e => h.apart hL.dsk.at_ (by decide) e.symm), hL.dsk.bts.grown k (by
      cases hu : u.ownBlock with
      | none => cases hv : v.ownBlock with
        | none => exact .inl rfl
        | some g => exact .inr (by simp)
      | some g => exact .inr (h.apart_bts hL.dsk.bts hu))⟩, hL.ok, hL.lb, hL.ll⟩
theorem belowS {row : Value} (hb : Below B w w') {w2 : World} (hO : OwnsS w' base row ss) (hB : B ≤ base) (hs : B ≤ w'.heap.size) (k : w'.grownBy w2 row.ownBlock) : Below B w w2 :=
  ⟨k.os.trans hb.os, k.tape.trans hb.tape, k.output.trans hb.output, Nat.le_trans hb.size k.size, fun i hi => (k.block i (by omega) (fun e => by have := (hO.lt i e.symm).1; omega)).trans (hb.block i hi)⟩
theorem add_cases (hd : D.down = false) (s : List UInt8) : (s.length ≤ 65535 ∧ D.xs.length + s.length + 6 ≤ D.size ∧ D.add s = (0, { D with xs := D.xs ++ frameOf s })) ∨ (65535 < s.length ∧ D.add s = (3, D)) ∨ (s.length ≤ 65535 ∧ D.size < D.xs.length + s.length + 6 ∧ D.add s = (6, D)) := by
  by_cases h1 : 65535 < s.length
  · refine .inr (.inl ⟨h1, ?_⟩)
    unfold Dk.add
    rw [hd, if_neg Bool.false_ne_true, if_pos h1]
  · by_cases h2 : D.xs.length + s.length + 6 ≤ D.size
    · exact .inl ⟨by omega, h2, add_fits hd (by omega) h2⟩
    · refine .inr (.inr ⟨by omega, by omega, ?_⟩)
      unfold Dk.add Dk.append
      rw [hd, if_neg Bool.false_ne_true, if_neg h1, if_neg Bool.false_ne_true, if_pos (by rw [frameOf_length]; omega)]
end
end Go.Proofs.Ytmdoicemkddpgaa
