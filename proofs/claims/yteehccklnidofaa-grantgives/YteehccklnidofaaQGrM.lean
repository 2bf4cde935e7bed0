/- Plain mathematics of grants: their order, sorted lists, what a role has of a table. -/
import Derived.Test.YteehccklnidofaaQKeyM
import Derived.Test.YteehccklnidofaaQScC
namespace Go.Proofs.Yteehccklnidofaa
open Go.Op (bytesLess)

theorem bl_irr : ∀ x : List UInt8, bytesLess x x = false
  | [] => rfl
  | a :: x => by rw [less_same]; exact bl_irr x
theorem bl_tri : ∀ x y : List UInt8, bytesLess x y = false → bytesLess y x = false → x = y
  | [], [], _, _ => rfl
  | [], _ :: _, h, _ => by cases h
  | _ :: _, [], _, h => by cases h
  | a :: x, b :: y, h1, h2 => by
    rcases Nat.lt_trichotomy a.toNat b.toNat with h | h | h
    · rw [less_lt h] at h1; cases h1
    · obtain rfl : a = b := UInt8.toNat_inj.1 h
      rw [less_same] at h1 h2
      rw [bl_tri x y h1 h2]
    · rw [less_lt h] at h2; cases h2
theorem bl_nil (x : List UInt8) : bytesLess x [] = false := by cases x <;> rfl
theorem bl_trans : ∀ x y z : List UInt8, bytesLess x y = true → bytesLess y z = true → bytesLess x z = true := by
  intro x
  induction x with
  | nil =>
    intro y z h1 h2
    cases z with
    | nil => rw [bl_nil] at h2; cases h2
    | cons c z => rfl
  | cons a x ih =>
    intro y z h1 h2
    cases y with
    | nil => rw [bl_nil] at h1; cases h1
    | cons b y =>
      cases z with
      | nil => rw [bl_nil] at h2; cases h2
      | cons c z =>
        rcases Nat.lt_trichotomy a.toNat b.toNat with h | h | h
        · rcases Nat.lt_trichotomy b.toNat c.toNat with k | k | k
          · exact less_lt (by omega) _ _
          · exact less_lt (by omega) _ _
          · rw [less_gt k] at h2; cases h2
        · obtain rfl : a = b := UInt8.toNat_inj.1 h
          rcases Nat.lt_trichotomy a.toNat c.toNat with k | k | k
          · exact less_lt k _ _
          · obtain rfl : a = c := UInt8.toNat_inj.1 k
            rw [less_same] at h1 h2 ⊢
            exact ih y z h1 h2
          · rw [less_gt k] at h2; cases h2
        · rw [less_gt h] at h1; cases h1
theorem bl_asym {x y : List UInt8} (h : bytesLess x y = true) : bytesLess y x = false := by
  cases e : bytesLess y x with
  | false => rfl
  | true => rw [← bl_irr x, bl_trans x y x h e]

/-- By roles, then by tables. -/
def ltK (r : Int) (t : List UInt8) (r' : Int) (t' : List UInt8) : Bool := decide (r < r') || (decide (r = r') && bytesLess t t')
theorem ltK_lt {r r' : Int} (h : r < r') (t t' : List UInt8) : ltK r t r' t' = true := by unfold ltK; rw [decide_eq_true h]; rfl
theorem ltK_gt {r r' : Int} (h : r' < r) (t t' : List UInt8) : ltK r t r' t' = false := by
  unfold ltK; rw [decide_eq_false (by omega), decide_eq_false (by omega)]; rfl
theorem ltK_eq (r : Int) (t t' : List UInt8) : ltK r t r t' = bytesLess t t' := by
  unfold ltK; rw [decide_eq_false (by omega)]; simp
theorem ltK_irr (r : Int) (t : List UInt8) : ltK r t r t = false := by rw [ltK_eq, bl_irr]
theorem ltK_tri {r r' : Int} {t t' : List UInt8} (h1 : ltK r t r' t' = false) (h2 : ltK r' t' r t = false) : r = r' ∧ t = t' := by
  rcases Int.lt_trichotomy r r' with h | h | h
  · rw [ltK_lt h] at h1; cases h1
  · subst h; rw [ltK_eq] at h1 h2; exact ⟨rfl, bl_tri _ _ h1 h2⟩
  · rw [ltK_lt h] at h2; cases h2
theorem ltK_trans {r r' r2 : Int} {t t' t2 : List UInt8} (h1 : ltK r t r' t' = true) (h2 : ltK r' t' r2 t2 = true) : ltK r t r2 t2 = true := by
  rcases Int.lt_trichotomy r r' with h | h | h
  · rcases Int.lt_trichotomy r' r2 with k | k | k
    · exact ltK_lt (by omega) _ _
    · exact ltK_lt (by omega) _ _
    · rw [ltK_gt k] at h2; cases h2
  · subst h
    rcases Int.lt_trichotomy r r2 with k | k | k
    · exact ltK_lt k _ _
    · subst k
      rw [ltK_eq] at h1 h2 ⊢
      exact bl_trans _ _ _ h1 h2
    · rw [ltK_gt k] at h2; cases h2
  · rw [ltK_gt h] at h1; cases h1
theorem ltK_asym {r r' : Int} {t t' : List UInt8} (h : ltK r t r' t' = true) : ltK r' t' r t = false := by
  cases e : ltK r' t' r t with
  | false => rfl
  | true => rw [← ltK_irr r t, ltK_trans h e]
theorem ltK_ne {r r' : Int} {t t' : List UInt8} (h : ltK r t r' t' = true) : ¬ (r = r' ∧ t = t') := by
  rintro ⟨rfl, rfl⟩
  rw [ltK_irr] at h; cases h

/-- What the program's comparison answers. -/
def cmpRT (r : Int) (t : List UInt8) (r' : Int) (t' : List UInt8) : Int := if ltK r t r' t' = true then -1 else if ltK r' t' r t = true then 1 else 0
theorem cmpRT_neg {r r' : Int} {t t' : List UInt8} : cmpRT r t r' t' < 0 ↔ ltK r t r' t' = true := by
  unfold cmpRT
  split
  · rename_i h; simp [h]
  · rename_i h
    split <;> simp [h]
theorem cmpRT_zero {r r' : Int} {t t' : List UInt8} : cmpRT r t r' t' = 0 ↔ r = r' ∧ t = t' := by
  unfold cmpRT
  split
  · rename_i h
    exact ⟨fun e => (by cases e), fun e => absurd e (ltK_ne h)⟩
  · rename_i h
    split
    · rename_i h2
      exact ⟨fun e => (by cases e), fun e => absurd ⟨e.1.symm, e.2.symm⟩ (ltK_ne h2)⟩
    · rename_i h2
      exact ⟨fun _ => ltK_tri (by simpa using h) (by simpa using h2), fun _ => rfl⟩

abbrev atG (gs : List Gr) (j : Nat) : Gr := gs.getD j default
def goodG (g : Gr) : Bool := decide (1 ≤ g.role ∧ g.role ≤ 7) && (nameN g.table && decide (1 ≤ g.bits ∧ g.bits ≤ 31))
def ltG (a b : Gr) : Bool := ltK a.role a.table b.role b.table
/-- A list is sorted. -/
def SortedG (gs : List Gr) : Prop := gs.length ≤ 64 ∧ (∀ j, j < gs.length → goodG (atG gs j) = true) ∧ ∀ j, j < gs.length → ∀ i, i < j → ltG (atG gs i) (atG gs j) = true
instance (gs : List Gr) : Decidable (SortedG gs) := by unfold SortedG; infer_instance
theorem sorted_of_next {gs : List Gr} (h : ∀ j, j + 1 < gs.length → ltG (atG gs j) (atG gs (j + 1)) = true) : ∀ j, j < gs.length → ∀ i, i < j → ltG (atG gs i) (atG gs j) = true
  | 0, _, i, hi => by omega
  | j + 1, hj, i, hi => by
    by_cases e : i = j
    · rw [e]; exact h j hj
    · exact ltK_trans (sorted_of_next h j (by omega) i (by omega)) (h j hj)
/-- What a role has of a table: of the first grant that tells. -/
def bitsG (r : Int) (t : List UInt8) : List Gr → Int
  | [] => 0
  | g :: l => if g.role = r ∧ g.table = t then g.bits else bitsG r t l
theorem bitsG_hit {r : Int} {t : List UInt8} : ∀ {gs : List Gr} {k : Nat}, k < gs.length → (∀ j, j < k → ¬ ((atG gs j).role = r ∧ (atG gs j).table = t)) → (atG gs k).role = r → (atG gs k).table = t → bitsG r t gs = (atG gs k).bits
  | [], _, h, _, _, _ => absurd h (Nat.not_lt_zero _)
  | g :: l, 0, _, _, h1, h2 => by
    rw [bitsG, if_pos ⟨h1, h2⟩]; rfl
  | g :: l, k + 1, h, hn, h1, h2 => by
    rw [bitsG, if_neg (show ¬ (g.role = r ∧ g.table = t) from hn 0 (by omega))]
    exact bitsG_hit (gs := l) (k := k) (by simpa using h) (fun j hj => hn (j + 1) (by omega)) h1 h2
theorem bitsG_none {r : Int} {t : List UInt8} : ∀ {gs : List Gr}, (∀ j, j < gs.length → ¬ ((atG gs j).role = r ∧ (atG gs j).table = t)) → bitsG r t gs = 0
  | [], _ => rfl
  | g :: l, h => by
    rw [bitsG, if_neg (show ¬ (g.role = r ∧ g.table = t) from h 0 (by simp))]
    exact bitsG_none (gs := l) fun j hj => h (j + 1) (by simpa using hj)
end Go.Proofs.Yteehccklnidofaa
