/- Plain mathematics of rows: what the two readers make of bytes, step by step, and that they keep in step. -/
/- Plain mathematics of expressions: their kind, their value, how many parts are left; where the kind is known, the value is of it. -/
import Derived.Test.YtnhalfdddcjicaaGreatQJaa
import Derived.Test.YtnhalfdddcjicaaGreatQJab
import Derived.Test.YtnhalfdddcjicaaGreatQJac
import Derived.Lib.Bytealg
namespace Go.Proofs.YtnhalfdddcjicaaGreat

/-- A number at the beginning of bytes. -/
def decI (l : List UInt8) : Option (Int × List UInt8) := match grp 0 0 l with | some (u, k) => some (unzig u, l.drop k) | none => none

/-- The program's reader: the bytes that are left, whether it has failed. -/
def rdI (l : List UInt8) (f : Bool) : Int × List UInt8 × Bool := match grp 0 0 l with | some (u, k) => (unzig u, l.drop k, f) | none => (0, [], true)
def rdS (l : List UInt8) (f : Bool) : List UInt8 × List UInt8 × Bool := match grp 0 0 l with
  | some (u, k) => if unzig u < 0 ∨ ((l.drop k).length : Int) < unzig u then ([], [], true) else ((l.drop k).take (unzig u).toNat, (l.drop k).drop (unzig u).toNat, f)
  | none => ([], [], true)
def rdM (l : List UInt8) (f : Bool) : Nat × List UInt8 × Bool := match grp 0 0 l with
  | some (u, k) => if unzig u < 0 ∨ 6 < unzig u ∨ ((l.drop k).length : Int) < unzig u then (0, [], true) else ((unzig u).toNat, l.drop k, f)
  | none => (0, [], true)
def takeP (l : List UInt8) (f : Bool) : Vl × List UInt8 × Bool :=
  if goodV ⟨(rdI l f).1, (rdI (rdI l f).2.1 (rdI l f).2.2).1, (rdS (rdI (rdI l f).2.1 (rdI l f).2.2).2.1 (rdI (rdI l f).2.1 (rdI l f).2.2).2.2).1⟩ = true
  then (⟨(rdI l f).1, (rdI (rdI l f).2.1 (rdI l f).2.2).1, (rdS (rdI (rdI l f).2.1 (rdI l f).2.2).2.1 (rdI (rdI l f).2.1 (rdI l f).2.2).2.2).1⟩, (rdS (rdI (rdI l f).2.1 (rdI l f).2.2).2.1 (rdI (rdI l f).2.1 (rdI l f).2.2).2.2).2)
  else (⟨0, 0, []⟩, [], true)

/-- The reference's reader, over the bytes l: its place, whether there was a fault. -/
def rfI (l : List UInt8) (p : Nat) (bad : Bool) : Int × Nat × Bool := if bad = true then (0, p, true) else match grp 0 0 (l.drop p) with | some (u, k) => (unzig u, p + k, false) | none => (0, p, true)
def rfS (l : List UInt8) (p : Nat) (bad : Bool) : List UInt8 × Nat × Bool := if bad = true then ([], p, true) else match grp 0 0 (l.drop p) with
  | some (u, k) => if unzig u < 0 ∨ (l.length : Int) - (p + k : Nat) < unzig u then ([], p + k, true) else ((l.drop (p + k)).take (unzig u).toNat, p + k + (unzig u).toNat, false)
  | none => ([], p, true)
def rfM (l : List UInt8) (p : Nat) (bad : Bool) : Nat × Nat × Bool := if bad = true then (0, p, true) else match grp 0 0 (l.drop p) with
  | some (u, k) => if unzig u < 0 ∨ 6 < unzig u ∨ (l.length : Int) - (p + k : Nat) < unzig u then (0, p + k, true) else ((unzig u).toNat, p + k, false)
  | none => (0, p, true)
def takeR (l : List UInt8) (p : Nat) (bad : Bool) : Vl × Nat × Bool :=
  let a := rfI l p bad
  let c := rfI l a.2.1 a.2.2
  let t := rfS l c.2.1 c.2.2
  if t.2.2 = true ∨ goodV ⟨a.1, c.1, t.1⟩ = false then (⟨0, 0, []⟩, t.2.1, true) else (⟨a.1, c.1, t.1⟩, t.2.1, false)

/-- The two readers are in step. -/
def Sync (l : List UInt8) (p : Nat) (bad : Bool) (q : List UInt8) (f : Bool) : Prop :=
  p ≤ l.length ∧ ((bad = false ∧ f = false ∧ q = l.drop p) ∨ (bad = true ∧ f = true ∧ q = []))

theorem grp_le {l : List UInt8} {u k : Nat} (h : grp 0 0 l = some (u, k)) : k ≤ l.length := by
  have := (grp_ok l 0 0 u k (by omega) (by simp) h).2.1
  omega

theorem sync_I {l : List UInt8} {p : Nat} {bad : Bool} {q : List UInt8} {f : Bool} (h : Sync l p bad q f) :
    Sync l (rfI l p bad).2.1 (rfI l p bad).2.2 (rdI q f).2.1 (rdI q f).2.2 ∧ (rfI l p bad).1 = (rdI q f).1 := by
  obtain ⟨hp, ⟨rfl, rfl, rfl⟩ | ⟨rfl, rfl, rfl⟩⟩ := h
  · unfold rfI rdI
    cases hg : grp 0 0 (l.drop p) with
    | none => exact ⟨⟨hp, .inr ⟨rfl, rfl, rfl⟩⟩, rfl⟩
    | some x =>
      obtain ⟨u, k⟩ := x
      have := grp_le hg
      rw [List.length_drop] at this
      exact ⟨⟨by show p + k ≤ l.length; omega, .inl ⟨rfl, rfl, by simp [List.drop_drop]⟩⟩, rfl⟩
  · exact ⟨⟨hp, .inr ⟨rfl, rfl, rfl⟩⟩, rfl⟩

theorem sync_S {l : List UInt8} {p : Nat} {bad : Bool} {q : List UInt8} {f : Bool} (h : Sync l p bad q f) :
    Sync l (rfS l p bad).2.1 (rfS l p bad).2.2 (rdS q f).2.1 (rdS q f).2.2 ∧ (rfS l p bad).1 = (rdS q f).1 := by
  obtain ⟨hp, ⟨rfl, rfl, rfl⟩ | ⟨rfl, rfl, rfl⟩⟩ := h
  · unfold rfS rdS
    cases hg : grp 0 0 (l.drop p) with
    | none => exact ⟨⟨hp, .inr ⟨rfl, rfl, rfl⟩⟩, rfl⟩
    | some x =>
      obtain ⟨u, k⟩ := x
      have hk := grp_le hg
      rw [List.length_drop] at hk
      have e : (((l.drop (p + k)).length : Nat) : Int) = (l.length : Int) - (p + k : Nat) := by simp; omega
      simp only [List.drop_drop, e]
      by_cases hb : unzig u < 0 ∨ (l.length : Int) - (p + k : Nat) < unzig u
      · rw [if_neg (by decide), if_pos hb, if_pos hb]
        exact ⟨⟨by show p + k ≤ l.length; omega, .inr ⟨rfl, rfl, rfl⟩⟩, rfl⟩
      · rw [if_neg (by decide), if_neg hb, if_neg hb]
        exact ⟨⟨by show p + k + (unzig u).toNat ≤ l.length; omega, .inl ⟨rfl, rfl, rfl⟩⟩, rfl⟩
  · exact ⟨⟨hp, .inr ⟨rfl, rfl, rfl⟩⟩, rfl⟩

theorem sync_M {l : List UInt8} {p : Nat} {bad : Bool} {q : List UInt8} {f : Bool} (h : Sync l p bad q f) :
    Sync l (rfM l p bad).2.1 (rfM l p bad).2.2 (rdM q f).2.1 (rdM q f).2.2 ∧ (rfM l p bad).1 = (rdM q f).1 := by
  obtain ⟨hp, ⟨rfl, rfl, rfl⟩ | ⟨rfl, rfl, rfl⟩⟩ := h
  · unfold rfM rdM
    cases hg : grp 0 0 (l.drop p) with
    | none => exact ⟨⟨hp, .inr ⟨rfl, rfl, rfl⟩⟩, rfl⟩
    | some x =>
      obtain ⟨u, k⟩ := x
      have hk := grp_le hg
      rw [List.length_drop] at hk
      have e : (((l.drop (p + k)).length : Nat) : Int) = (l.length : Int) - (p + k : Nat) := by simp; omega
      simp only [List.drop_drop, e]
      by_cases hb : unzig u < 0 ∨ 6 < unzig u ∨ (l.length : Int) - (p + k : Nat) < unzig u
      · rw [if_neg (by decide), if_pos hb, if_pos hb]
        exact ⟨⟨by show p + k ≤ l.length; omega, .inr ⟨rfl, rfl, rfl⟩⟩, rfl⟩
      · rw [if_neg (by decide), if_neg hb, if_neg hb]
        exact ⟨⟨by show p + k ≤ l.length; omega, .inl ⟨rfl, rfl, rfl⟩⟩, rfl⟩
  · exact ⟨⟨hp, .inr ⟨rfl, rfl, rfl⟩⟩, rfl⟩

/-- A value taken: in step behind it; the same, unless there was a fault. -/
theorem sync_take {l : List UInt8} {p : Nat} {bad : Bool} {q : List UInt8} {f : Bool} (h : Sync l p bad q f) :
    Sync l (takeR l p bad).2.1 (takeR l p bad).2.2 (takeP q f).2.1 (takeP q f).2.2 ∧ ((takeR l p bad).2.2 = false → (takeR l p bad).1 = (takeP q f).1 ∧ bad = false) := by
  obtain ⟨s1, e1⟩ := sync_I h
  obtain ⟨s2, e2⟩ := sync_I s1
  obtain ⟨s3, e3⟩ := sync_S s2
  have hbad : (rfS l (rfI l (rfI l p bad).2.1 (rfI l p bad).2.2).2.1 (rfI l (rfI l p bad).2.1 (rfI l p bad).2.2).2.2).2.2 = false → bad = false := by
    intro hh
    cases bad with
    | false => rfl
    | true => simp [rfI, rfS] at hh
  unfold takeR takeP
  simp only
  rw [← e1, ← e2, ← e3]
  generalize rdS (rdI (rdI q f).2.1 (rdI q f).2.2).2.1 (rdI (rdI q f).2.1 (rdI q f).2.2).2.2 = T at *
  generalize rfS l (rfI l (rfI l p bad).2.1 (rfI l p bad).2.2).2.1 (rfI l (rfI l p bad).2.1 (rfI l p bad).2.2).2.2 = t at *
  obtain ⟨hp, hs⟩ := s3
  cases hg : goodV ⟨(rfI l p bad).1, (rfI l (rfI l p bad).2.1 (rfI l p bad).2.2).1, t.1⟩ with
  | false =>
    rw [if_pos (.inr rfl), if_neg (by decide)]
    exact ⟨⟨hp, .inr ⟨rfl, rfl, rfl⟩⟩, fun h => by cases h⟩
  | true =>
    rw [if_pos rfl]
    by_cases ht : t.2.2 = true
    · rw [if_pos (.inl ht)]
      refine ⟨⟨hp, .inr ⟨rfl, ?_⟩⟩, fun h => by cases h⟩
      rcases hs with ⟨h1, _⟩ | ⟨_, h2, h3⟩
      · rw [h1] at ht; cases ht
      · exact ⟨h2, h3⟩
    · rw [if_neg (by rintro (h | h); exact ht h; cases h)]
      have ht' : t.2.2 = false := by simpa using ht
      refine ⟨⟨hp, .inl ⟨rfl, ?_⟩⟩, fun _ => ⟨rfl, hbad ht'⟩⟩
      rcases hs with ⟨_, h2, h3⟩ | ⟨h1, _⟩
      · exact ⟨h2, h3⟩
      · rw [h1] at ht'; cases ht'

/-- n values taken, in turn. -/
def takesP : Nat → List UInt8 → Bool → List Vl × List UInt8 × Bool
  | 0, l, f => ([], l, f)
  | n + 1, l, f => ((takesP n l f).1 ++ [(takeP (takesP n l f).2.1 (takesP n l f).2.2).1], (takeP (takesP n l f).2.1 (takesP n l f).2.2).2)
def takesR (l : List UInt8) : Nat → Nat → Bool → List Vl × Nat × Bool
  | 0, p, bad => ([], p, bad)
  | n + 1, p, bad => ((takesR l n p bad).1 ++ [(takeR l (takesR l n p bad).2.1 (takesR l n p bad).2.2).1], (takeR l (takesR l n p bad).2.1 (takesR l n p bad).2.2).2)
theorem takesP_len : ∀ (n : Nat) (l : List UInt8) (f : Bool), (takesP n l f).1.length = n
  | 0, _, _ => rfl
  | n + 1, l, f => by simp [takesP, takesP_len n l f]
theorem takesR_len (l : List UInt8) : ∀ (n p : Nat) (bad : Bool), (takesR l n p bad).1.length = n
  | 0, _, _ => rfl
  | n + 1, p, bad => by simp [takesR, takesR_len l n p bad]
theorem sync_takes {l : List UInt8} {p : Nat} {bad : Bool} {q : List UInt8} {f : Bool} (h : Sync l p bad q f) : ∀ n, Sync l (takesR l n p bad).2.1 (takesR l n p bad).2.2 (takesP n q f).2.1 (takesP n q f).2.2 ∧ ((takesR l n p bad).2.2 = false → (takesR l n p bad).1 = (takesP n q f).1)
  | 0 => ⟨h, fun _ => rfl⟩
  | n + 1 => by
    obtain ⟨s1, e1⟩ := sync_takes h n
    obtain ⟨s2, e2⟩ := sync_take s1
    refine ⟨s2, fun hh => ?_⟩
    obtain ⟨e3, e4⟩ := e2 hh
    show _ ++ [_] = _ ++ [_]
    rw [e1 e4, e3]

/-- The program's Read: the row, or none. -/
def readP (s : List UInt8) : Option (List Vl) :=
  if (takesP (rdM s false).1 (rdM s false).2.1 (rdM s false).2.2).2.2 = true ∨ (takesP (rdM s false).1 (rdM s false).2.1 (rdM s false).2.2).2.1 ≠ [] then none
  else some (takesP (rdM s false).1 (rdM s false).2.1 (rdM s false).2.2).1
def readR (s : List UInt8) : Option (List Vl) :=
  if (takesR s (rfM s 0 false).1 (rfM s 0 false).2.1 (rfM s 0 false).2.2).2.2 = true ∨ (takesR s (rfM s 0 false).1 (rfM s 0 false).2.1 (rfM s 0 false).2.2).2.1 ≠ s.length then none
  else some (takesR s (rfM s 0 false).1 (rfM s 0 false).2.1 (rfM s 0 false).2.2).1
theorem read_same (s : List UInt8) : readP s = readR s := by
  have h0 : Sync s 0 false s false := ⟨by omega, .inl ⟨rfl, rfl, by simp⟩⟩
  obtain ⟨s1, e1⟩ := sync_M h0
  obtain ⟨s2, e2⟩ := sync_takes s1 (rfM s 0 false).1
  unfold readP readR
  rw [← e1]
  obtain ⟨hp, ⟨h1, h2, h3⟩ | ⟨h1, h2, h3⟩⟩ := s2
  · by_cases hl : (takesR s (rfM s 0 false).1 (rfM s 0 false).2.1 (rfM s 0 false).2.2).2.1 = s.length
    · rw [if_neg, if_neg, e2 h1]
      · rintro (h | h)
        · rw [h1] at h; cases h
        · exact h hl
      · rintro (h | h)
        · rw [h2] at h; cases h
        · exact h (by rw [h3, hl]; simp)
    · rw [if_pos, if_pos (.inr hl)]
      right
      rw [h3]
      intro h
      have := congrArg List.length h
      simp at this
      omega
  · rw [if_pos (.inl h2), if_pos (.inl h1)]

/-- A value's bytes. -/
def bytesV (v : Vl) : List UInt8 := enc v.kind ++ enc v.num ++ encS v.text
def bytesVs (vs : List Vl) : List UInt8 := vs.flatMap bytesV
def rowV (vs : List Vl) : List UInt8 := enc vs.length ++ bytesVs vs
theorem rdI_enc {n : Int} (h : I64 n) (r : List UInt8) (f : Bool) : rdI (enc n ++ r) f = (n, r, f) := by
  unfold rdI
  rw [grp_enc n h r]
  simp [unzig_zigzag]
theorem rdS_enc {t : List UInt8} (h : t.length ≤ 1000000) (r : List UInt8) (f : Bool) : rdS (encS t ++ r) f = (t, r, f) := by
  have hI : I64 (t.length : Int) := by unfold I64; omega
  unfold rdS encS
  rw [List.append_assoc, grp_enc _ hI (t ++ r)]
  simp only [List.drop_left, unzig_zigzag]
  rw [if_neg (by simp; omega)]
  simp
/-- What was put is taken, if it can be; else there is none, and the reader has failed. -/
theorem takeP_bytes {v : Vl} (hv : v.Ok) (ht : v.text.length ≤ 1000000) (r : List UInt8) (f : Bool) : takeP (bytesV v ++ r) f = if goodV v = true then (v, r, f) else (⟨0, 0, []⟩, [], true) := by
  unfold takeP bytesV
  rw [List.append_assoc, List.append_assoc, rdI_enc hv.kind]
  simp only
  rw [rdI_enc hv.num]
  simp only
  rw [rdS_enc ht]
theorem takeP_end : takeP [] true = (⟨0, 0, []⟩, [], true) := by
  have e1 : rdI [] true = (0, [], true) := by simp [rdI, grp]
  have e2 : rdS [] true = ([], [], true) := by simp [rdS, grp]
  unfold takeP
  simp only [e1, e2]
  decide
theorem takeR_bad (l : List UInt8) (p : Nat) : takeR l p true = (⟨0, 0, []⟩, p, true) := by
  unfold takeR rfI rfS
  simp
/-- The two readers, over what was put. -/
theorem take_put {l : List UInt8} {p : Nat} {v : Vl} (hv : v.Ok) (ht : v.text.length ≤ 1000000) {r : List UInt8} (h : Sync l p false (bytesV v ++ r) false) : (takeR l p false).1 = (takeP (bytesV v ++ r) false).1 := by
  obtain ⟨s1, e1⟩ := sync_I h
  obtain ⟨s2, e2⟩ := sync_I s1
  obtain ⟨s3, e3⟩ := sync_S s2
  have a1 : rdI (bytesV v ++ r) false = (v.kind, enc v.num ++ (encS v.text ++ r), false) := by unfold bytesV; rw [List.append_assoc, List.append_assoc, rdI_enc hv.kind]
  rw [a1] at s1 s2 s3 e1 e2 e3
  simp only at s1 s2 s3 e1 e2 e3
  rw [rdI_enc hv.num] at s2 s3 e2 e3
  simp only at s2 s3 e2 e3
  rw [rdS_enc ht] at s3 e3
  simp only at s3 e3
  have hb : (rfS l (rfI l (rfI l p false).2.1 (rfI l p false).2.2).2.1 (rfI l (rfI l p false).2.1 (rfI l p false).2.2).2.2).2.2 = false := by
    obtain ⟨_, ⟨h1, _⟩ | ⟨_, h2, _⟩⟩ := s3
    · exact h1
    · cases h2
  rw [takeP_bytes hv ht]
  unfold takeR
  simp only
  rw [e1, e2, e3, hb]
  have ev : (⟨v.kind, v.num, v.text⟩ : Vl) = v := rfl
  rw [ev]
  cases hg : goodV v <;> simp
end Go.Proofs.YtnhalfdddcjicaaGreat

namespace Go.Proofs.YtnhalfdddcjicaaGreat
open Go.RowKit

/-- An expression as it lies in memory: its operation, its column, its value, the slice of its operands, these. -/
inductive Ex where
  | nil
  | mk (op col : Int) (v : Vl) (A : Option Addr) (n cap : Nat) (arg : Nat → Ex)
instance : Inhabited Ex := ⟨.nil⟩

def Ex.op : Ex → Int
  | .nil => 0
  | .mk op _ _ _ _ _ _ => op
def Ex.col : Ex → Int
  | .nil => 0
  | .mk _ col _ _ _ _ _ => col
def Ex.v : Ex → Vl
  | .nil => ⟨0, 0, []⟩
  | .mk _ _ v _ _ _ _ => v
def Ex.A : Ex → Option Addr
  | .nil => none
  | .mk _ _ _ A _ _ _ => A
def Ex.n : Ex → Nat
  | .nil => 0
  | .mk _ _ _ _ n _ _ => n
def Ex.cap : Ex → Nat
  | .nil => 0
  | .mk _ _ _ _ _ cap _ => cap
def Ex.val (e : Ex) : Value := .agg #[.int .i64 e.op, .int .i64 e.col, .int .i64 e.v.kind, .int .i64 e.v.num, .string ⟨e.v.text.toArray⟩, .slice e.A e.n e.cap]

/-- Is the operation known, and has it as many operands as it takes? -/
def hasOps (op : Int) (n : Nat) : Bool :=
  if op = 1 ∨ op = 2 then decide (n = 0) else if op = 7 ∨ op = 8 then decide (n = 1) else if op = 3 ∨ op = 4 ∨ op = 5 ∨ op = 6 ∨ op = 9 ∨ op = 10 then decide (n = 2) else false
def unused (op col : Int) (v : Vl) : Bool := (decide (op = 2) || decide (col = 0)) && (decide (op = 1) || decide (v = ⟨0, 0, []⟩))

def truthK (k : Int) : Bool := decide (k = 1 ∨ k = 0)
def commonK (a b : Int) : Option Int := if a = 0 then some b else if a = b ∨ b = 0 then some a else none
def pairK (op a b : Int) : Option Int :=
  if op = 5 ∨ op = 6 then (if truthK a = true ∧ truthK b = true then some 1 else none)
  else if op = 3 ∨ op = 4 then (commonK a b).map (fun _ => 1)
  else (commonK a b).bind fun k => if k = 3 then none else some k
def colAt (cols : List Int) (c : Int) : Option Int := if 0 ≤ c ∧ c < cols.length then some (cols.getD c.toNat 0) else none
def kindE (cols : List Int) : Ex → Option Int
  | .nil => none
  | .mk op col v _ n _ arg =>
    if hasOps op n = false then none
    else if unused op col v = false then none
    else if op = 1 then (if goodV v = true then some v.kind else none)
    else if op = 2 then colAt cols col
    else if op = 7 then (kindE cols (arg 0)).bind fun k => if truthK k = true then some 1 else none
    else if op = 8 then (kindE cols (arg 0)).map fun _ => 1
    else (kindE cols (arg 0)).bind fun a => (kindE cols (arg 1)).bind fun b => pairK op a b

def nullV : Vl := ⟨0, 0, []⟩
def truthV (b : Bool) : Vl := ⟨1, if b then 1 else 0, []⟩
def isV (v : Vl) (s : Bool) : Bool := !decide (v.kind = 0) && ((v.num != 0) == s)
def okTruth (v : Vl) : Bool := decide (v.kind = 0 ∨ v.kind = 1)
def notV (v : Vl) : Option Vl := if okTruth v = true then (if v.kind = 0 then some nullV else some (truthV (isV v false))) else none
def decideV (a b : Vl) (s : Bool) : Option Vl :=
  if okTruth a = false then none else if okTruth b = false then none
  else if (isV a s || isV b s) = true then some (truthV s)
  else if a.kind = 0 ∨ b.kind = 0 then some nullV else some (truthV (!s))
def cmpInt (a b : Int) : Int := if a < b then -1 else if b < a then 1 else 0
def cmpK (a b : Vl) : Int := if a.kind = 1 then cmpInt a.num b.num else if a.kind = 2 then cmpI (keyI a.num) (keyI b.num) else Lib.compareBytes a.text b.text
def floatsV (op a b : Int) : Int := if op = 9 then canonO (Ieee.double.add (wordOf a) (wordOf b)) else canonO (Ieee.double.mul (wordOf a) (wordOf b))
def numbersV (op a b : Int) : Int := if op = 9 then wrap64 (a + b) else wrap64 (a * b)
def pairV (op : Int) (a b : Vl) : Option Vl :=
  if op = 5 then decideV a b false
  else if op = 6 then decideV a b true
  else if a.kind = 0 ∨ b.kind = 0 then some nullV
  else if a.kind ≠ b.kind then none
  else if op = 3 then some (truthV (decide (cmpK a b < 0)))
  else if op = 4 then some (truthV (decide (cmpK a b = 0)))
  else if a.kind = 3 then none
  else if a.kind = 2 then some ⟨2, floatsV op a.num b.num, []⟩
  else some ⟨1, numbersV op a.num b.num, []⟩
def rowAt (row : List Vl) (c : Int) : Option Vl := if 0 ≤ c ∧ c < row.length then some (row.getD c.toNat default) else none
def valE (row : List Vl) : Ex → Option Vl
  | .nil => none
  | .mk op col v _ n _ arg =>
    if hasOps op n = false then none
    else if op = 1 then some v
    else if op = 2 then rowAt row col
    else if op = 7 then (valE row (arg 0)).bind notV
    else if op = 8 then (valE row (arg 0)).map fun a => truthV (decide (a.kind = 0))
    else (valE row (arg 0)).bind fun a => (valE row (arg 1)).bind fun b => pairV op a b

/-- How many of the nodes remain behind those of an expression; -1: they don't suffice. -/
def leftE : Ex → Int → Int → Int
  | .nil, _, _ => -1
  | .mk _ _ _ _ n _ arg, nodes, levels => if nodes = 0 ∨ levels = 0 then -1 else (List.range n).foldl (fun nd j => if nd < 0 then -1 else leftE (arg j) nd (levels - 1)) (nodes - 1)
/-- The same, behind the first j operands. -/
def leftTo (arg : Nat → Ex) (nodes levels : Int) (j : Nat) : Int := (List.range j).foldl (fun nd j => if nd < 0 then -1 else leftE (arg j) nd (levels - 1)) (nodes - 1)
theorem leftTo_zero (arg : Nat → Ex) (nodes levels : Int) : leftTo arg nodes levels 0 = nodes - 1 := rfl
theorem leftTo_succ (arg : Nat → Ex) (nodes levels : Int) (j : Nat) : leftTo arg nodes levels (j + 1) = if leftTo arg nodes levels j < 0 then -1 else leftE (arg j) (leftTo arg nodes levels j) (levels - 1) := by
  unfold leftTo; rw [List.range_succ, List.foldl_append]; rfl
theorem leftTo_neg (arg : Nat → Ex) (nodes levels : Int) (j : Nat) (h : leftTo arg nodes levels j = -1) : ∀ d, leftTo arg nodes levels (j + d) = -1
  | 0 => h
  | d + 1 => by rw [← Nat.add_assoc, leftTo_succ, leftTo_neg arg nodes levels j h d]; rfl
theorem leftE_mk (op col : Int) (v : Vl) (A : Option Addr) (n cap : Nat) (arg : Nat → Ex) (nodes levels : Int) :
    leftE (.mk op col v A n cap arg) nodes levels = if nodes = 0 ∨ levels = 0 then -1 else leftTo arg nodes levels n := by unfold leftTo; rw [leftE]
theorem leftE_range : ∀ (e : Ex) (nodes levels : Int), 0 ≤ nodes → leftE e nodes levels = -1 ∨ (0 ≤ leftE e nodes levels ∧ leftE e nodes levels ≤ nodes)
  | .nil, _, _, _ => .inl rfl
  | .mk op col v A n cap arg, nodes, levels, h => by
    rw [leftE_mk]
    split
    · exact .inl rfl
    · rename_i h0
      have key : ∀ j, leftTo arg nodes levels j = -1 ∨ (0 ≤ leftTo arg nodes levels j ∧ leftTo arg nodes levels j ≤ nodes) := fun j => by
        induction j with
        | zero => rw [leftTo_zero]; right; omega
        | succ j ih =>
          rw [leftTo_succ]
          rcases ih with ih | ih
          · rw [if_pos (by omega)]; exact .inl rfl
          · rw [if_neg (by omega)]
            rcases leftE_range (arg j) (leftTo arg nodes levels j) (levels - 1) ih.1 with h1 | h1
            · exact .inl h1
            · right; omega
      exact key n

theorem okTruth_iff (v : Vl) : okTruth v = true ↔ (v.kind = 0 ∨ v.kind = 1) := decide_eq_true_iff
theorem truthK_iff (k : Int) : truthK k = true ↔ (k = 1 ∨ k = 0) := decide_eq_true_iff
theorem good_truth (b : Bool) : goodV (truthV b) = true := by cases b <;> decide
theorem good_null : goodV nullV = true := by decide
theorem kind_truth (b : Bool) : (truthV b).kind = 1 := rfl

theorem canonO_good (o : Option Nat) (h : ∀ r, o = some r → r < 18446744073709551616) : canonI (wordOf (canonO o)) = canonO o := by
  cases o with
  | none => decide
  | some r =>
    show canonI (wordOf (canonI r)) = canonI r
    rw [wordOf_canonI (h r rfl)]
    unfold canonI
    rw [canonW_idem]
theorem i64_wrap (x : Int) : I64 (IntKind.i64.wrap x) := by unfold I64; rw [IntKind.wrap_i64]; omega
theorem canonO_i64 (o : Option Nat) : I64 (canonO o) := by
  cases o with
  | none => unfold I64; decide
  | some r => exact i64_wrap _

/-- The row's values are null or of their columns' kinds, and valid. -/
structure Fits (cols : List Int) (row : List Vl) : Prop where
  len : cols.length = row.length
  kind : ∀ i, i < row.length → (row.getD i default).kind = 0 ∨ (row.getD i default).kind = cols.getD i 0
  good : ∀ i, i < row.length → goodV (row.getD i default) = true

theorem floats_good (op a b : Int) : canonI (wordOf (floatsV op a b)) = floatsV op a b := by
  unfold floatsV
  split
  · exact canonO_good _ fun r h => Ieee.Format.add_lt Ieee.double h
  · exact canonO_good _ fun r h => Ieee.Format.mul_lt Ieee.double h
theorem floats_i64 (op a b : Int) : I64 (floatsV op a b) := by unfold floatsV; split <;> exact canonO_i64 _
theorem numbers_i64 (op a b : Int) : I64 (numbersV op a b) := by unfold numbersV I64 wrap64; split <;> omega

theorem good_kind {v : Vl} (h : goodV v = true) : v.kind = 0 ∨ v.kind = 1 ∨ v.kind = 2 ∨ v.kind = 3 := by
  rw [goodV_iff] at h
  omega
theorem okV_null : nullV.Ok := ⟨by unfold I64; decide, by unfold I64; decide, by unfold maxLen; decide⟩
theorem okV_truth (b : Bool) : (truthV b).Ok := by cases b <;> exact ⟨by unfold I64; decide, by unfold I64; decide, by unfold maxLen; decide⟩
theorem okV_num {k n : Int} (hk : I64 k) (hn : I64 n) : (Vl.mk k n []).Ok := ⟨hk, hn, by unfold maxLen; simp⟩

theorem pairV_ok {op : Int} {a b v : Vl} (h : pairV op a b = some v) : v.Ok := by
  unfold pairV decideV at h
  repeat' split at h
  all_goals first
    | (cases h; done)
    | (simp only [Option.some.injEq] at h; subst h; exact okV_null)
    | (simp only [Option.some.injEq] at h; subst h; exact okV_truth _)
    | (simp only [Option.some.injEq] at h; subst h; exact okV_num (by unfold I64; decide) (floats_i64 _ _ _))
    | (simp only [Option.some.injEq] at h; subst h; exact okV_num (by unfold I64; decide) (numbers_i64 _ _ _))
theorem notV_ok {a v : Vl} (h : notV a = some v) : v.Ok := by
  unfold notV at h
  repeat' split at h
  all_goals first
    | (cases h; done)
    | (simp only [Option.some.injEq] at h; subst h; exact okV_null)
    | (simp only [Option.some.injEq] at h; subst h; exact okV_truth _)

/-- What Kind finds out, Eval keeps. -/
def Kept (k : Int) (v : Vl) : Prop := (v.kind = 0 ∨ v.kind = k) ∧ goodV v = true
theorem kept_truth (b : Bool) : Kept 1 (truthV b) := ⟨.inr rfl, good_truth b⟩
theorem kept_null (k : Int) : Kept k nullV := ⟨.inl rfl, good_null⟩

theorem pair_safe {op ka kb k : Int} {a b : Vl} (ha : Kept ka a) (hb : Kept kb b) (h : pairK op ka kb = some k) : ∃ v, pairV op a b = some v ∧ Kept k v := by
  unfold pairK at h
  by_cases h56 : op = 5 ∨ op = 6
  · rw [if_pos h56] at h
    split at h
    · rename_i ht
      rw [truthK_iff, truthK_iff] at ht
      cases h
      have oa : okTruth a = true := by rw [okTruth_iff]; have := ha.1; omega
      have ob : okTruth b = true := by rw [okTruth_iff]; have := hb.1; omega
      have key : ∀ s, ∃ v, decideV a b s = some v ∧ Kept 1 v := fun s => by
        unfold decideV
        rw [oa, ob, if_neg (by simp), if_neg (by simp)]
        split
        · exact ⟨_, rfl, kept_truth _⟩
        · split
          · exact ⟨_, rfl, kept_null _⟩
          · exact ⟨_, rfl, kept_truth _⟩
      unfold pairV
      by_cases h5 : op = 5
      · rw [if_pos h5]; exact key _
      · rw [if_neg h5, if_pos (h56.resolve_left h5)]; exact key _
    · cases h
  · rw [if_neg h56] at h
    unfold pairV
    rw [if_neg (fun e => h56 (.inl e)), if_neg (fun e => h56 (.inr e))]
    by_cases h0 : a.kind = 0 ∨ b.kind = 0
    · rw [if_pos h0]; exact ⟨_, rfl, kept_null _⟩
    rw [if_neg h0]
    have ea := ha.1
    have eb := hb.1
    have hc : ∀ c, commonK ka kb = some c → a.kind = b.kind ∧ c = a.kind := fun c hc => by
      unfold commonK at hc
      split at hc
      · omega
      · split at hc
        · cases hc; omega
        · cases hc
    by_cases h34 : op = 3 ∨ op = 4
    · rw [if_pos h34] at h
      cases hk : commonK ka kb with
      | none => rw [hk] at h; cases h
      | some c =>
        rw [hk] at h
        cases h
        rw [if_neg (by have := hc c hk; omega)]
        by_cases h3 : op = 3
        · rw [if_pos h3]; exact ⟨_, rfl, kept_truth _⟩
        · rw [if_neg h3, if_pos (h34.resolve_left h3)]; exact ⟨_, rfl, kept_truth _⟩
    · rw [if_neg h34] at h
      cases hk : commonK ka kb with
      | none => rw [hk] at h; cases h
      | some c =>
        rw [hk] at h
        simp only [Option.bind_some] at h
        split at h
        · cases h
        · rename_i h3
          cases h
          have := hc _ hk
          rw [if_neg (by omega), if_neg (fun e => h34 (.inl e)), if_neg (fun e => h34 (.inr e)), if_neg (by omega)]
          by_cases h2 : a.kind = 2
          · rw [if_pos h2]
            refine ⟨_, rfl, .inr (by show (2 : Int) = _; omega), ?_⟩
            rw [goodV_iff]
            exact .inr (.inr (.inl ⟨rfl, rfl, floats_good _ _ _⟩))
          · rw [if_neg h2]
            have := good_kind ha.2
            refine ⟨_, rfl, .inr (by show (1 : Int) = _; omega), ?_⟩
            rw [goodV_iff]
            exact .inr (.inl ⟨rfl, rfl⟩)

theorem safe {cols : List Int} {row : List Vl} (F : Fits cols row) : ∀ (e : Ex) (k : Int), kindE cols e = some k → ∃ v, valE row e = some v ∧ Kept k v
  | .nil, _, h => by cases h
  | .mk op col v A n cap arg, k, h => by
    rw [kindE] at h
    rw [valE]
    by_cases h0 : hasOps op n = false
    · rw [if_pos h0] at h; cases h
    rw [if_neg h0] at h ⊢
    by_cases hu : unused op col v = false
    · rw [if_pos hu] at h; cases h
    rw [if_neg hu] at h
    by_cases h1 : op = 1
    · rw [if_pos h1] at h ⊢
      split at h
      · rename_i hg; cases h; exact ⟨_, rfl, .inr rfl, hg⟩
      · cases h
    rw [if_neg h1] at h ⊢
    by_cases h2 : op = 2
    · rw [if_pos h2] at h ⊢
      unfold colAt at h
      unfold rowAt
      rw [F.len] at h
      split at h
      · rename_i hr
        cases h
        rw [if_pos hr]
        have hi : col.toNat < row.length := by omega
        exact ⟨_, rfl, F.kind _ hi, F.good _ hi⟩
      · cases h
    rw [if_neg h2] at h ⊢
    by_cases h7 : op = 7
    · rw [if_pos h7] at h ⊢
      cases hk : kindE cols (arg 0) with
      | none => rw [hk] at h; cases h
      | some ka =>
        obtain ⟨a, e1, ha⟩ := safe F (arg 0) ka hk
        rw [hk] at h
        simp only [Option.bind_some] at h
        split at h
        · rename_i ht
          rw [truthK_iff] at ht
          cases h
          have oa : okTruth a = true := by rw [okTruth_iff]; have := ha.1; omega
          rw [e1]
          simp only [Option.bind_some]
          unfold notV
          rw [if_pos oa]
          split
          · exact ⟨_, rfl, kept_null _⟩
          · exact ⟨_, rfl, kept_truth _⟩
        · cases h
    rw [if_neg h7] at h ⊢
    by_cases h8 : op = 8
    · rw [if_pos h8] at h ⊢
      cases hk : kindE cols (arg 0) with
      | none => rw [hk] at h; cases h
      | some ka =>
        obtain ⟨a, e1, ha⟩ := safe F (arg 0) ka hk
        rw [hk] at h
        cases h
        rw [e1]
        exact ⟨_, rfl, kept_truth _⟩
    rw [if_neg h8] at h ⊢
    cases hk : kindE cols (arg 0) with
    | none => rw [hk] at h; cases h
    | some ka =>
      obtain ⟨a, e1, ha⟩ := safe F (arg 0) ka hk
      rw [hk] at h
      simp only [Option.bind_some] at h
      cases hj : kindE cols (arg 1) with
      | none => rw [hj] at h; cases h
      | some kb =>
        obtain ⟨b, e2, hb⟩ := safe F (arg 1) kb hj
        rw [hj] at h
        simp only [Option.bind_some] at h
        rw [e1, e2]
        exact pair_safe ha hb h
end Go.Proofs.YtnhalfdddcjicaaGreat
