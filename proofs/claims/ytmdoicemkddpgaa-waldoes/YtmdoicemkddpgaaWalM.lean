/- The log of layer 6 as plain mathematics: a record's frame, the first record, the records of a text, and what a torn text still holds. -/
import Derived.Test.YtmdoicemkddpgaaCrcB
import Derived.Test.YtmdoicemkddpgaaDiskM
namespace Go.Proofs.Ytmdoicemkddpgaa
open Go.RowKit

/-- A record's length, as two bytes. -/
def headOf (n : Nat) : List UInt8 := [(n / 256 % 256).toUInt8, (n % 256).toUInt8]
/-- A record on the disk. -/
def frameOf (s : List UInt8) : List UInt8 := (headOf s.length ++ s) ++ tailOf (crcOf (headOf s.length ++ s))
def headN (s : List UInt8) : Nat := (s.getD 0 0).toNat * 256 + (s.getD 1 0).toNat
/-- The record with which a text begins. -/
def firstOf (s : List UInt8) : Option (List UInt8) := if 2 ≤ s.length ∧ headN s + 6 ≤ s.length then (checkOf (s.take (headN s + 6))).map (fun b => b.drop 2) else none

theorem tailOf_length (c : Nat) : (tailOf c).length = 4 := tails_length 4 c
theorem headOf_length (n : Nat) : (headOf n).length = 2 := rfl
theorem frameOf_length (s : List UInt8) : (frameOf s).length = s.length + 6 := by
  unfold frameOf
  rw [List.length_append, List.length_append, tailOf_length, headOf_length]
  omega
theorem headN_lt (s : List UInt8) : headN s < 65536 := by
  unfold headN
  have h1 := (s.getD 0 0).toNat_lt
  have h2 := (s.getD 1 0).toNat_lt
  omega
theorem toUInt8_of (a : UInt8) (n : Nat) (h : n = a.toNat) : n.toUInt8 = a := by
  subst h
  exact UInt8.ofNat_toNat
theorem two_head {s : List UInt8} (h : 2 ≤ s.length) : s.take 2 = headOf (headN s) := by
  match s, h with
  | a :: b :: r, _ =>
    have h1 := a.toNat_lt
    have h2 := b.toNat_lt
    have e : headN (a :: b :: r) = a.toNat * 256 + b.toNat := rfl
    unfold headOf
    rw [e, toUInt8_of a _ (by omega), toUInt8_of b _ (by omega)]
    rfl
theorem headN_head {n : Nat} (hn : n < 65536) (t : List UInt8) : headN (headOf n ++ t) = n := by
  have e : headN (headOf n ++ t) = (n / 256 % 256).toUInt8.toNat * 256 + (n % 256).toUInt8.toNat := rfl
  rw [e, Lib.toUInt8_toNat (by omega), Lib.toUInt8_toNat (by omega)]
  omega
theorem headN_take (s : List UInt8) {k : Nat} (hk : 2 ≤ k) : headN (s.take k) = headN s := by
  unfold headN
  simp only [List.getD_eq_getElem?_getD]
  rw [List.getElem?_take, List.getElem?_take, if_pos (by omega), if_pos (by omega)]
theorem headN_eq {s t : List UInt8} (h : s.take 2 = t.take 2) : headN s = headN t := by
  rw [← headN_take s (Nat.le_refl 2), ← headN_take t (Nat.le_refl 2), h]

theorem checkOf_frame (s : List UInt8) : checkOf (frameOf s) = some (headOf s.length ++ s) := by
  unfold checkOf
  have hl := frameOf_length s
  have e1 : (frameOf s).take ((frameOf s).length - 4) = headOf s.length ++ s := by
    rw [hl]
    unfold frameOf
    exact List.take_left' (by rw [List.length_append, headOf_length]; omega)
  have e2 : (frameOf s).drop ((frameOf s).length - 4) = tailOf (crcOf (headOf s.length ++ s)) := by
    rw [hl]
    unfold frameOf
    exact List.drop_left' (by rw [List.length_append, headOf_length]; omega)
  rw [e1, e2, if_pos ⟨by omega, rfl⟩]
theorem checkOf_some {s b : List UInt8} (h : checkOf s = some b) : s = b ++ tailOf (crcOf b) ∧ b.length + 4 = s.length := by
  unfold checkOf at h
  split at h
  · rename_i hc
    injection h with h
    subst h
    exact ⟨by rw [← hc.2, List.take_append_drop], by rw [List.length_take]; omega⟩
  · cases h

/-- A text begins with a record just where it begins with a frame. -/
theorem firstOf_frame {r : List UInt8} (hr : r.length < 65536) (t : List UInt8) : firstOf (frameOf r ++ t) = some r := by
  have hh : headN (frameOf r ++ t) = r.length := by
    unfold frameOf
    rw [List.append_assoc, List.append_assoc]
    exact headN_head hr _
  unfold firstOf
  rw [hh, List.length_append, frameOf_length, if_pos ⟨by omega, by omega⟩, List.take_left' (frameOf_length r), checkOf_frame]
  rfl
theorem firstOf_some {s r : List UInt8} (h : firstOf s = some r) : s = frameOf r ++ s.drop (r.length + 6) ∧ r.length < 65536 ∧ r.length = headN s ∧ r.length + 6 ≤ s.length := by
  unfold firstOf at h
  split at h
  · rename_i hc
    cases hk : checkOf (s.take (headN s + 6)) with
    | none => rw [hk] at h; cases h
    | some b =>
      rw [hk] at h
      injection h with h
      obtain ⟨h1, h2⟩ := checkOf_some hk
      rw [List.length_take, Nat.min_eq_left hc.2] at h2
      have hl : r.length = headN s := by rw [← h, List.length_drop]; omega
      have hb2 : b.take 2 = headOf (headN s) := by
        have e := congrArg (List.take 2) h1
        rw [List.take_take, Nat.min_eq_left (by omega), two_head hc.1, List.take_append_of_le_length (by omega)] at e
        exact e.symm
      have hb : b = headOf r.length ++ r := by
        rw [hl, ← hb2, ← h, List.take_append_drop]
      refine ⟨?_, by rw [hl]; exact headN_lt s, hl, by omega⟩
      have e : s.take (r.length + 6) = frameOf r := by rw [hl, h1, hb]; rfl
      rw [← e, List.take_append_drop]
  · cases h
/-- The reference's way to say it. -/
theorem firstOf_ref {s : List UInt8} (h6 : 6 ≤ s.length) (hn : headN s + 6 ≤ s.length) :
    firstOf s = if frameOf ((s.drop 2).take (headN s)) = s.take (headN s + 6) then some ((s.drop 2).take (headN s)) else none := by
  have hl : ((s.drop 2).take (headN s)).length = headN s := by rw [List.length_take, List.length_drop]; omega
  split
  · rename_i h
    have e : s = frameOf ((s.drop 2).take (headN s)) ++ s.drop (headN s + 6) := by rw [h, List.take_append_drop]
    rw [show firstOf s = firstOf (frameOf ((s.drop 2).take (headN s)) ++ s.drop (headN s + 6)) by rw [← e]]
    exact firstOf_frame (by rw [hl]; exact headN_lt s) _
  · rename_i h
    cases hf : firstOf s with
    | none => rfl
    | some r =>
      exfalso
      apply h
      obtain ⟨h1, h2, h3, h4⟩ := firstOf_some hf
      have e : (s.drop 2).take (headN s) = r := by
        rw [← h3]
        conv => lhs; rw [h1]
        unfold frameOf
        rw [List.append_assoc, List.append_assoc, List.drop_left' (headOf_length _)]
        exact List.take_left' rfl
      rw [e, ← h3]
      conv => rhs; rw [h1]
      rw [List.take_left' (frameOf_length r)]
theorem firstOf_short {s : List UInt8} (h : s.length < 6 ∨ s.length < headN s + 6) : firstOf s = none := by
  unfold firstOf
  rw [if_neg (by omega)]

/-- The records of a text. -/
def scanOf (s : List UInt8) : List (List UInt8) :=
  match h : firstOf s with
  | none => []
  | some r => r :: scanOf (s.drop (r.length + 6))
termination_by s.length
decreasing_by
  have := firstOf_some h
  rw [List.length_drop]
  omega
theorem scanOf_none {s : List UInt8} (h : firstOf s = none) : scanOf s = [] := by
  rw [scanOf]
  split
  · rfl
  · rename_i r hr; rw [h] at hr; cases hr
theorem scanOf_some {s r : List UInt8} (h : firstOf s = some r) : scanOf s = r :: scanOf (s.drop (r.length + 6)) := by
  rw [scanOf]
  split
  · rename_i hr; rw [h] at hr; cases hr
  · rename_i r' hr
    rw [h] at hr
    injection hr with hr
    subst hr
    rfl

/-- So many bytes do records take. -/
def took (rs : List (List UInt8)) : Nat := (rs.map fun r => r.length + 6).sum
def frames (rs : List (List UInt8)) : List UInt8 := (rs.map frameOf).flatten
theorem took_cons (r : List UInt8) (rs : List (List UInt8)) : took (r :: rs) = r.length + 6 + took rs := by unfold took; simp
theorem took_snoc (r : List UInt8) (rs : List (List UInt8)) : took (rs ++ [r]) = took rs + (r.length + 6) := by unfold took; simp
theorem frames_cons (r : List UInt8) (rs : List (List UInt8)) : frames (r :: rs) = frameOf r ++ frames rs := by unfold frames; simp
theorem frames_snoc (r : List UInt8) (rs : List (List UInt8)) : frames (rs ++ [r]) = frames rs ++ frameOf r := by unfold frames; simp
theorem frames_append (rs ts : List (List UInt8)) : frames (rs ++ ts) = frames rs ++ frames ts := by unfold frames; simp
theorem frames_length : ∀ rs : List (List UInt8), (frames rs).length = took rs
  | [] => rfl
  | r :: rs => by rw [frames_cons, took_cons, List.length_append, frameOf_length, frames_length rs]
theorem took_ge (rs : List (List UInt8)) : 6 * rs.length ≤ took rs := by
  induction rs with
  | nil => simp
  | cons r rs ih => rw [took_cons, List.length_cons]; omega
theorem scanOf_frames : ∀ (rs : List (List UInt8)) (_ : ∀ r ∈ rs, r.length < 65536) (t : List UInt8), scanOf (frames rs ++ t) = rs ++ scanOf t
  | [], _, t => by simp [frames]
  | r :: rs, h, t => by
    rw [frames_cons, List.append_assoc, scanOf_some (firstOf_frame (h r (by simp)) _), List.drop_left' (frameOf_length r), scanOf_frames rs (fun x hx => h x (by simp [hx])) t]
    rfl
theorem scanOf_spec (s : List UInt8) : s = frames (scanOf s) ++ s.drop (took (scanOf s)) ∧ (∀ r ∈ scanOf s, r.length < 65536) ∧ firstOf (s.drop (took (scanOf s))) = none ∧ took (scanOf s) ≤ s.length := by
  generalize hn : s.length = n
  induction n using Nat.strongRecOn generalizing s with
  | ind n ih =>
    cases hf : firstOf s with
    | none => rw [scanOf_none hf]; exact ⟨by simp [frames, took], by simp, by simpa [took] using hf, by simp [took]⟩
    | some r =>
      obtain ⟨h1, h2, h3, h4⟩ := firstOf_some hf
      rw [scanOf_some hf]
      obtain ⟨i1, i2, i3, i4⟩ := ih (s.length - (r.length + 6)) (by omega) (s.drop (r.length + 6)) (by rw [List.length_drop])
      rw [List.drop_drop, ← took_cons] at i1 i3
      refine ⟨?_, ?_, i3, by rw [took_cons]; omega⟩
      · rw [frames_cons, List.append_assoc, ← i1]; exact h1
      · intro x hx
        rcases List.mem_cons.1 hx with rfl | hx
        · exact h2
        · exact i2 x hx
theorem take_took (s : List UInt8) : s.take (took (scanOf s)) = frames (scanOf s) := by
  obtain ⟨h1, _, _, _⟩ := scanOf_spec s
  have h := List.take_left' (l₂ := s.drop (took (scanOf s))) (frames_length (scanOf s))
  rw [← h1] at h
  exact h
theorem scanOf_nil : scanOf [] = [] := scanOf_none (firstOf_short (.inl (by decide)))
theorem scanOf_took (s : List UInt8) : scanOf (s.take (took (scanOf s))) = scanOf s := by
  have h := scanOf_frames (scanOf s) (scanOf_spec s).2.1 []
  rw [List.append_nil, scanOf_nil, List.append_nil] at h
  rw [take_took, h]
theorem scanOf_whole {rs : List (List UInt8)} (h : ∀ r ∈ rs, r.length < 65536) : scanOf (frames rs) = rs := by
  have h := scanOf_frames rs h []
  rw [List.append_nil, scanOf_nil, List.append_nil] at h
  exact h
theorem headN_frames {r : List UInt8} (hr : r.length < 65536) (t : List UInt8) : headN (frameOf r ++ t) = r.length := by
  unfold frameOf
  rw [List.append_assoc, List.append_assoc]
  exact headN_head hr _
theorem take_agree {s t : List UInt8} {k n : Nat} (h : s.take n = t.take n) (hk : k ≤ n) : s.take k = t.take k := by
  have := congrArg (List.take k) h
  rw [List.take_take, List.take_take, Nat.min_eq_left hk] at this
  exact this
theorem drop_agree {s t : List UInt8} {k n : Nat} (h : s.take (k + n) = t.take (k + n)) : (s.drop k).take n = (t.drop k).take n := by
  have := congrArg (List.drop k) h
  rw [List.drop_take, List.drop_take, show k + n - k = n by omega] at this
  exact this
theorem frame_inj {r q : List UInt8} (hl : r.length = q.length) (h : (frameOf r).take (r.length + 2) = (frameOf q).take (r.length + 2)) : r = q := by
  have e : ∀ x : List UInt8, (frameOf x).take (x.length + 2) = headOf x.length ++ x := fun x => by
    unfold frameOf
    exact List.take_left' (by rw [List.length_append, headOf_length]; omega)
  rw [e r] at h
  rw [hl, e q, ← hl] at h
  exact List.append_cancel_left h
/-- What is torn off in the middle, the last byte turned, shows no other records. -/
theorem scanOf_torn : ∀ (rs : List (List UInt8)) (_ : ∀ r ∈ rs, r.length < 65536) (s : List UInt8) (_ : s.length ≤ took rs) (_ : s.take (s.length - 1) = (frames rs).take (s.length - 1)),
    ∃ j, j ≤ rs.length ∧ scanOf s = rs.take j ∧ ∀ f, f ≤ rs.length → took (rs.take f) ≤ s.length → s.take (took (rs.take f)) = (frames rs).take (took (rs.take f)) → f ≤ j
  | [], _, s, hl, _ => by
    have : s = [] := List.eq_nil_of_length_eq_zero (by simp [took] at hl; simpa using hl)
    subst this
    exact ⟨0, Nat.le_refl _, by rw [scanOf_nil]; rfl, fun f hf _ _ => hf⟩
  | r :: rs, h, s, hl, ha => by
    have hr := h r (by simp)
    rw [frames_cons] at ha
    by_cases h1 : s.length < r.length + 6
    · refine ⟨0, by omega, ?_, ?_⟩
      · refine scanOf_none (firstOf_short ?_)
        by_cases h6 : s.length < 6
        · exact .inl h6
        · refine .inr ?_
          rw [headN_eq (take_agree ha (k := 2) (by omega)), headN_frames hr]
          exact h1
      · intro f _ hf _
        match f, hf with
        | 0, _ => exact Nat.le_refl _
        | f + 1, hf => rw [List.take_succ_cons, took_cons] at hf; omega
    · have hN : headN s = r.length := by rw [headN_eq (take_agree ha (k := 2) (by omega)), headN_frames hr]
      by_cases h2 : s.length = r.length + 6
      · have small : ∀ f, f ≤ (r :: rs).length → took ((r :: rs).take f) ≤ s.length → f ≤ 1 := fun f hfl hf => by
          match f, hfl, hf with
          | 0, _, _ => omega
          | 1, _, _ => omega
          | f + 2, hfl, hf =>
            exfalso
            rw [List.take_succ_cons, took_cons] at hf
            have hz : took (rs.take (f + 1)) = 0 := by omega
            cases rs with
            | nil => simp at hfl
            | cons q rs => rw [List.take_succ_cons, took_cons] at hz; omega
        by_cases h3 : s = frameOf r
        · subst h3
          refine ⟨1, by simp, ?_, fun f hfl hf _ => small f hfl hf⟩
          have := scanOf_whole (rs := [r]) (fun x hx => by simp at hx; subst hx; exact hr)
          rw [frames_cons, show frames [] = [] from rfl, List.append_nil] at this
          rw [this]
          rfl
        · refine ⟨0, by omega, ?_, ?_⟩
          · refine scanOf_none ?_
            cases hf : firstOf s with
            | none => rfl
            | some q =>
              exfalso
              obtain ⟨g1, g2, g3, g4⟩ := firstOf_some hf
              have e : s = frameOf q := by
                rw [List.drop_of_length_le (by omega), List.append_nil] at g1
                exact g1
              apply h3
              rw [e]
              have e2 := take_agree ha (k := q.length + 2) (by omega)
              rw [List.take_append_of_le_length (by rw [frameOf_length]; omega)] at e2
              rw [e] at e2
              rw [frame_inj (by omega) e2]
          · intro f hfl hf hq
            have := small f hfl hf
            match f, this with
            | 0, _ => exact Nat.le_refl _
            | 1, _ =>
              exfalso
              apply h3
              have e1 : took ((r :: rs).take 1) = r.length + 6 := by simp [took]
              rw [e1, frames_cons, List.take_left' (frameOf_length r), List.take_of_length_le (by omega)] at hq
              exact hq
      · have e1 : s.take (r.length + 6) = frameOf r := by
          rw [take_agree ha (k := r.length + 6) (by omega), List.take_left' (frameOf_length r)]
        have e2 : s = frameOf r ++ s.drop (r.length + 6) := by rw [← e1, List.take_append_drop]
        have hf : firstOf s = some r := by rw [e2]; exact firstOf_frame hr _
        have hd : (frameOf r ++ frames rs).drop (r.length + 6) = frames rs := List.drop_left' (frameOf_length r)
        have hl2 : (s.drop (r.length + 6)).length = s.length - (r.length + 6) := List.length_drop
        obtain ⟨j, j1, j2, j3⟩ := scanOf_torn rs (fun x hx => h x (by simp [hx])) (s.drop (r.length + 6)) (by rw [hl2]; rw [took_cons] at hl; omega) (by
          rw [hl2]
          have := drop_agree (s := s) (t := frameOf r ++ frames rs) (k := r.length + 6) (n := s.length - (r.length + 6) - 1) (by rw [show r.length + 6 + (s.length - (r.length + 6) - 1) = s.length - 1 by omega]; exact ha)
          rw [hd] at this
          exact this)
        refine ⟨j + 1, by simp; exact j1, by rw [scanOf_some hf, j2]; rfl, ?_⟩
        intro f hf1 hf2 hf3
        match f, hf1, hf2, hf3 with
        | 0, _, _, _ => omega
        | f + 1, hf1, hf2, hf3 =>
          rw [List.take_succ_cons, took_cons] at hf2 hf3
          rw [frames_cons] at hf3
          have := drop_agree (k := r.length + 6) hf3
          rw [hd] at this
          have := j3 f (by simpa using hf1) (by rw [hl2]; omega) this
          omega
end Go.Proofs.Ytmdoicemkddpgaa
