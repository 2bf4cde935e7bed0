/- Plain mathematics of rows: what the two readers make of bytes, step by step, and that they keep in step. -/
import Derived.Test.YtlkeagfmlcbogaaQPackM
import Derived.Test.YtlkeagfmlcbogaaQPKa
import Derived.Test.YtlkeagfmlcbogaaQValM
namespace Go.Proofs.Ytlkeagfmlcbogaa

/-- A number at the beginning of bytes. -/
def decI (l : List UInt8) : Option (Int × List UInt8) := match grp 0 0 l with | some (u, k) => some (unzig u, l.drop k) | none => none

/-- The program's reader: the bytes that are left, whether it has failed. -/
def rdI (l : List UInt8) (f : Bool) : Int × List UInt8 × Bool := match grp 0 0 l with | some (u, k) => (unzig u, l.drop k, f) | none => (0, [], true)
def rdS (l : List UInt8) (f : Bool) : List UInt8 × List UInt8 × Bool := match grp 0 0 l with
  | some (u, k) => if unzig u < 0 ∨ ((l.drop k).length : Int) < unzig u then ([], [], true) else ((l.drop k).take (unzig u).toNat, (l.drop k).drop (unzig u).toNat, f)
  | none => ([], [], true)
def rdM (l : List UInt8) (f : Bool) : Nat × List UInt8 × Bool := match grp 0 0 l with
  | some (u, k) => if unzig u < 0 ∨ 6 < unzig u ∨ ((l.drop k).length : Int) < unzig u then (0, [], true) else ((unzig u).toNat, l.drop k, f)
  | none => (0, [], true)
def takeP (l : List UInt8) (f : Bool) : Vl × List UInt8 × Bool :=
  if goodV ⟨(rdI l f).1, (rdI (rdI l f).2.1 (rdI l f).2.2).1, (rdS (rdI (rdI l f).2.1 (rdI l f).2.2).2.1 (rdI (rdI l f).2.1 (rdI l f).2.2).2.2).1⟩ = true
  then (⟨(rdI l f).1, (rdI (rdI l f).2.1 (rdI l f).2.2).1, (rdS (rdI (rdI l f).2.1 (rdI l f).2.2).2.1 (rdI (rdI l f).2.1 (rdI l f).2.2).2.2).1⟩, (rdS (rdI (rdI l f).2.1 (rdI l f).2.2).2.1 (rdI (rdI l f).2.1 (rdI l f).2.2).2.2).2)
  else (⟨0, 0, []⟩, [], true)

/-- The reference's reader, over the bytes l: its place, whether there was a fault. -/
def rfI (l : List UInt8) (p : Nat) (bad : Bool) : Int × Nat × Bool := if bad = true then (0, p, true) else match grp 0 0 (l.drop p) with | some (u, k) => (unzig u, p + k, false) | none => (0, p, true)
def rfS (l : List UInt8) (p : Nat) (bad : Bool) : List UInt8 × Nat × Bool := if bad = true then ([], p, true) else match grp 0 0 (l.drop p) with
  | some (u, k) => if unzig u < 0 ∨ (l.length : Int) - (p + k : Nat) < unzig u then ([], p + k, true) else ((l.drop (p + k)).take (unzig u).toNat, p + k + (unzig u).toNat, false)
  | none => ([], p, true)
def rfM (l : List UInt8) (p : Nat) (bad : Bool) : Nat × Nat × Bool := if bad = true then (0, p, true) else match grp 0 0 (l.drop p) with
  | some (u, k) => if unzig u < 0 ∨ 6 < unzig u ∨ (l.length : Int) - (p + k : Nat) < unzig u then (0, p + k, true) else ((unzig u).toNat, p + k, false)
  | none => (0, p, true)
def takeR (l : List UInt8) (p : Nat) (bad : Bool) : Vl × Nat × Bool :=
  let a := rfI l p bad
  let c := rfI l a.2.1 a.2.2
  let t := rfS l c.2.1 c.2.2
  if t.2.2 = true ∨ goodV ⟨a.1, c.1, t.1⟩ = false then (⟨0, 0, []⟩, t.2.1, true) else (⟨a.1, c.1, t.1⟩, t.2.1, false)

/-- The two readers are in step. -/
def Sync (l : List UInt8) (p : Nat) (bad : Bool) (q : List UInt8) (f : Bool) : Prop :=
  p ≤ l.length ∧ ((bad = false ∧ f = false ∧ q = l.drop p) ∨ (bad = true ∧ f = true ∧ q = []))

theorem grp_le {l : List UInt8} {u k : Nat} (h : grp 0 0 l = some (u, k)) : k ≤ l.length := by
  have := (grp_ok l 0 0 u k (by omega) (by simp) h).2.1
  omega

theorem sync_I {l : List UInt8} {p : Nat} {bad : Bool} {q : List UInt8} {f : Bool} (h : Sync l p bad q f) :
    Sync l (rfI l p bad).2.1 (rfI l p bad).2.2 (rdI q f).2.1 (rdI q f).2.2 ∧ (rfI l p bad).1 = (rdI q f).1 := by
  obtain ⟨hp, ⟨rfl, rfl, rfl⟩ | ⟨rfl, rfl, rfl⟩⟩ := h
  · unfold rfI rdI
    cases hg : grp 0 0 (l.drop p) with
    | none => exact ⟨⟨hp, .inr ⟨rfl, rfl, rfl⟩⟩, rfl⟩
    | some x =>
      obtain ⟨u, k⟩ := x
      have := grp_le hg
      rw [List.length_drop] at this
      exact ⟨⟨by show p + k ≤ l.length; omega, .inl ⟨rfl, rfl, by simp [List.drop_drop]⟩⟩, rfl⟩
  · exact ⟨⟨hp, .inr ⟨rfl, rfl, rfl⟩⟩, rfl⟩

theorem sync_S {l : List UInt8} {p : Nat} {bad : Bool} {q : List UInt8} {f : Bool} (h : Sync l p bad q f) :
    Sync l (rfS l p bad).2.1 (rfS l p bad).2.2 (rdS q f).2.1 (rdS q f).2.2 ∧ (rfS l p bad).1 = (rdS q f).1 := by
  obtain ⟨hp, ⟨rfl, rfl, rfl⟩ | ⟨rfl, rfl, rfl⟩⟩ := h
  · unfold rfS rdS
    cases hg : grp 0 0 (l.drop p) with
    | none => exact ⟨⟨hp, .inr ⟨rfl, rfl, rfl⟩⟩, rfl⟩
    | some x =>
      obtain ⟨u, k⟩ := x
      have hk := grp_le hg
      rw [List.length_drop] at hk
      have e : (((l.drop (p + k)).length : Nat) : Int) = (l.length : Int) - (p + k : Nat) := by simp; omega
      simp only [List.drop_drop, e]
      by_cases hb : unzig u < 0 ∨ (l.length : Int) - (p + k : Nat) < unzig u
      · rw [if_neg (by decide), if_pos hb, if_pos hb]
        exact ⟨⟨by show p + k ≤ l.length; omega, .inr ⟨rfl, rfl, rfl⟩⟩, rfl⟩
      · rw [if_neg (by decide), if_neg hb, if_neg hb]
        exact ⟨⟨by show p + k + (unzig u).toNat ≤ l.length; omega, .inl ⟨rfl, rfl, rfl⟩⟩, rfl⟩
  · exact ⟨⟨hp, .inr ⟨rfl, rfl, rfl⟩⟩, rfl⟩

theorem sync_M {l : List UInt8} {p : Nat} {bad : Bool} {q : List UInt8} {f : Bool} (h : Sync l p bad q f) :
    Sync l (rfM l p bad).2.1 (rfM l p bad).2.2 (rdM q f).2.1 (rdM q f).2.2 ∧ (rfM l p bad).1 = (rdM q f).1 := by
  obtain ⟨hp, ⟨rfl, rfl, rfl⟩ | ⟨rfl, rfl, rfl⟩⟩ := h
  · unfold rfM rdM
    cases hg : grp 0 0 (l.drop p) with
    | none => exact ⟨⟨hp, .inr ⟨rfl, rfl, rfl⟩⟩, rfl⟩
    | some x =>
      obtain ⟨u, k⟩ := x
      have hk := grp_le hg
      rw [List.length_drop] at hk
      have e : (((l.drop (p + k)).length : Nat) : Int) = (l.length : Int) - (p + k : Nat) := by simp; omega
      simp only [List.drop_drop, e]
      by_cases hb : unzig u < 0 ∨ 6 < unzig u ∨ (l.length : Int) - (p + k : Nat) < unzig u
      · rw [if_neg (by decide), if_pos hb, if_pos hb]
        exact ⟨⟨by show p + k ≤ l.length; omega, .inr ⟨rfl, rfl, rfl⟩⟩, rfl⟩
      · rw [if_neg (by decide), if_neg hb, if_neg hb]
        exact ⟨⟨by show p + k ≤ l.length; omega, .inl ⟨rfl, rfl, rfl⟩⟩, rfl⟩
  · exact ⟨⟨hp, .inr ⟨rfl, rfl, rfl⟩⟩, rfl⟩

/-- A value taken: in step behind it; the same, unless there was a fault. -/
theorem sync_take {l : List UInt8} {p : Nat} {bad : Bool} {q : List UInt8} {f : Bool} (h : Sync l p bad q f) :
    Sync l (takeR l p bad).2.1 (takeR l p bad).2.2 (takeP q f).2.1 (takeP q f).2.2 ∧ ((takeR l p bad).2.2 = false → (takeR l p bad).1 = (takeP q f).1 ∧ bad = false) := by
  obtain ⟨s1, e1⟩ := sync_I h
  obtain ⟨s2, e2⟩ := sync_I s1
  obtain ⟨s3, e3⟩ := sync_S s2
  have hbad : (rfS l (rfI l (rfI l p bad).2.1 (rfI l p bad).2.2).2.1 (rfI l (rfI l p bad).2.1 (rfI l p bad).2.2).2.2).2.2 = false → bad = false := by
    intro hh
    cases bad with
    | false => rfl
    | true => simp [rfI, rfS] at hh
  unfold takeR takeP
  simp only
  rw [← e1, ← e2, ← e3]
  generalize rdS (rdI (rdI q f).2.1 (rdI q f).2.2).2.1 (rdI (rdI q f).2.1 (rdI q f).2.2).2.2 = T at *
  generalize rfS l (rfI l (rfI l p bad).2.1 (rfI l p bad).2.2).2.1 (rfI l (rfI l p bad).2.1 (rfI l p bad).2.2).2.2 = t at *
  obtain ⟨hp, hs⟩ := s3
  cases hg : goodV ⟨(rfI l p bad).1, (rfI l (rfI l p bad).2.1 (rfI l p bad).2.2).1, t.1⟩ with
  | false =>
    rw [if_pos (.inr rfl), if_neg (by decide)]
    exact ⟨⟨hp, .inr ⟨rfl, rfl, rfl⟩⟩, fun h => by cases h⟩
  | true =>
    rw [if_pos rfl]
    by_cases ht : t.2.2 = true
    · rw [if_pos (.inl ht)]
      refine ⟨⟨hp, .inr ⟨rfl, ?_⟩⟩, fun h => by cases h⟩
      rcases hs with ⟨h1, _⟩ | ⟨_, h2, h3⟩
      · rw [h1] at ht; cases ht
      · exact ⟨h2, h3⟩
    · rw [if_neg (by rintro (h | h); exact ht h; cases h)]
      have ht' : t.2.2 = false := by simpa using ht
      refine ⟨⟨hp, .inl ⟨rfl, ?_⟩⟩, fun _ => ⟨rfl, hbad ht'⟩⟩
      rcases hs with ⟨_, h2, h3⟩ | ⟨h1, _⟩
      · exact ⟨h2, h3⟩
      · rw [h1] at ht'; cases ht'

/-- n values taken, in turn. -/
def takesP : Nat → List UInt8 → Bool → List Vl × List UInt8 × Bool
  | 0, l, f => ([], l, f)
  | n + 1, l, f => ((takesP n l f).1 ++ [(takeP (takesP n l f).2.1 (takesP n l f).2.2).1], (takeP (takesP n l f).2.1 (takesP n l f).2.2).2)
def takesR (l : List UInt8) : Nat → Nat → Bool → List Vl × Nat × Bool
  | 0, p, bad => ([], p, bad)
  | n + 1, p, bad => ((takesR l n p bad).1 ++ [(takeR l (takesR l n p bad).2.1 (takesR l n p bad).2.2).1], (takeR l (takesR l n p bad).2.1 (takesR l n p bad).2.2).2)
theorem takesP_len : ∀ (n : Nat) (l : List UInt8) (f : Bool), (takesP n l f).1.length = n
  | 0, _, _ => rfl
  | n + 1, l, f => by simp [takesP, takesP_len n l f]
theorem takesR_len (l : List UInt8) : ∀ (n p : Nat) (bad : Bool), (takesR l n p bad).1.length = n
  | 0, _, _ => rfl
  | n + 1, p, bad => by simp [takesR, takesR_len l n p bad]
theorem sync_takes {l : List UInt8} {p : Nat} {bad : Bool} {q : List UInt8} {f : Bool} (h : Sync l p bad q f) : ∀ n, Sync l (takesR l n p bad).2.1 (takesR l n p bad).2.2 (takesP n q f).2.1 (takesP n q f).2.2 ∧ ((takesR l n p bad).2.2 = false → (takesR l n p bad).1 = (takesP n q f).1)
  | 0 => ⟨h, fun _ => rfl⟩
  | n + 1 => by
    obtain ⟨s1, e1⟩ := sync_takes h n
    obtain ⟨s2, e2⟩ := sync_take s1
    refine ⟨s2, fun hh => ?_⟩
    obtain ⟨e3, e4⟩ := e2 hh
    show _ ++ [_] = _ ++ [_]
    rw [e1 e4, e3]

/-- The program's Read: the row, or none. -/
def readP (s : List UInt8) : Option (List Vl) :=
  if (takesP (rdM s false).1 (rdM s false).2.1 (rdM s false).2.2).2.2 = true ∨ (takesP (rdM s false).1 (rdM s false).2.1 (rdM s false).2.2).2.1 ≠ [] then none
  else some (takesP (rdM s false).1 (rdM s false).2.1 (rdM s false).2.2).1
def readR (s : List UInt8) : Option (List Vl) :=
  if (takesR s (rfM s 0 false).1 (rfM s 0 false).2.1 (rfM s 0 false).2.2).2.2 = true ∨ (takesR s (rfM s 0 false).1 (rfM s 0 false).2.1 (rfM s 0 false).2.2).2.1 ≠ s.length then none
  else some (takesR s (rfM s 0 false).1 (rfM s 0 false).2.1 (rfM s 0 false).2.2).1
theorem read_same (s : List UInt8) : readP s = readR s := by
  have h0 : Sync s 0 false s false := ⟨by omega, .inl ⟨rfl, rfl, by simp⟩⟩
  obtain ⟨s1, e1⟩ := sync_M h0
  obtain ⟨s2, e2⟩ := sync_takes s1 (rfM s 0 false).1
  unfold readP readR
  rw [← e1]
  obtain ⟨hp, ⟨h1, h2, h3⟩ | ⟨h1, h2, h3⟩⟩ := s2
  · by_cases hl : (takesR s (rfM s 0 false).1 (rfM s 0 false).2.1 (rfM s 0 false).2.2).2.1 = s.length
    · rw [if_neg, if_neg, e2 h1]
      · rintro (h | h)
        · rw [h1] at h; cases h
        · exact h hl
      · rintro (h | h)
        · rw [h2] at h; cases h
        · exact h (by rw [h3, hl]; simp)
    · rw [if_pos, if_pos (.inr hl)]
      right
      rw [h3]
      intro h
      have := congrArg List.length h
      simp at this
      omega
  · rw [if_pos (.inl h2), if_pos (.inl h1)]

/-- A value's bytes. -/
def bytesV (v : Vl) : List UInt8 := enc v.kind ++ enc v.num ++ encS v.text
def bytesVs (vs : List Vl) : List UInt8 := vs.flatMap bytesV
def rowV (vs : List Vl) : List UInt8 := enc vs.length ++ bytesVs vs
theorem rdI_enc {n : Int} (h : I64 n) (r : List UInt8) (f : Bool) : rdI (enc n ++ r) f = (n, r, f) := by
  unfold rdI
  rw [grp_enc n h r]
  simp [unzig_zigzag]
theorem rdS_enc {t : List UInt8} (h : t.length ≤ 1000000) (r : List UInt8) (f : Bool) : rdS (encS t ++ r) f = (t, r, f) := by
  have hI : I64 (t.length : Int) := by unfold I64; omega
  unfold rdS encS
  rw [List.append_assoc, grp_enc _ hI (t ++ r)]
  simp only [List.drop_left, unzig_zigzag]
  rw [if_neg (by simp; omega)]
  simp
/-- What was put is taken, if it can be; else there is none, and the reader has failed. -/
theorem takeP_bytes {v : Vl} (hv : v.Ok) (ht : v.text.length ≤ 1000000) (r : List UInt8) (f : Bool) : takeP (bytesV v ++ r) f = if goodV v = true then (v, r, f) else (⟨0, 0, []⟩, [], true) := by
  unfold takeP bytesV
  rw [List.append_assoc, List.append_assoc, rdI_enc hv.kind]
  simp only
  rw [rdI_enc hv.num]
  simp only
  rw [rdS_enc ht]
theorem takeP_end : takeP [] true = (⟨0, 0, []⟩, [], true) := by
  have e1 : rdI [] true = (0, [], true) := by simp [rdI, grp]
  have e2 : rdS [] true = ([], [], true) := by simp [rdS, grp]
  unfold takeP
  simp only [e1, e2]
  decide
theorem takeR_bad (l : List UInt8) (p : Nat) : takeR l p true = (⟨0, 0, []⟩, p, true) := by
  unfold takeR rfI rfS
  simp
/-- The two readers, over what was put. -/
theorem take_put {l : List UInt8} {p : Nat} {v : Vl} (hv : v.Ok) (ht : v.text.length ≤ 1000000) {r : List UInt8} (h : Sync l p false (bytesV v ++ r) false) : (takeR l p false).1 = (takeP (bytesV v ++ r) false).1 := by
  obtain ⟨s1, e1⟩ := sync_I h
  obtain ⟨s2, e2⟩ := sync_I s1
  obtain ⟨s3, e3⟩ := sync_S s2
  have a1 : rdI (bytesV v ++ r) false = (v.kind, enc v.num ++ (encS v.text ++ r), false) := by unfold bytesV; rw [List.append_assoc, List.append_assoc, rdI_enc hv.kind]
  rw [a1] at s1 s2 s3 e1 e2 e3
  simp only at s1 s2 s3 e1 e2 e3
  rw [rdI_enc hv.num] at s2 s3 e2 e3
  simp only at s2 s3 e2 e3
  rw [rdS_enc ht] at s3 e3
  simp only at s3 e3
  have hb : (rfS l (rfI l (rfI l p false).2.1 (rfI l p false).2.2).2.1 (rfI l (rfI l p false).2.1 (rfI l p false).2.2).2.2).2.2 = false := by
    obtain ⟨_, ⟨h1, _⟩ | ⟨_, h2, _⟩⟩ := s3
    · exact h1
    · cases h2
  rw [takeP_bytes hv ht]
  unfold takeR
  simp only
  rw [e1, e2, e3, hb]
  have ev : (⟨v.kind, v.num, v.text⟩ : Vl) = v := rfl
  rw [ev]
  cases hg : goodV v <;> simp
end Go.Proofs.Ytlkeagfmlcbogaa
