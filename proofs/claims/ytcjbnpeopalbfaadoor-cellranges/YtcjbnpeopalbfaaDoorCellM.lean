/- Plain mathematics of cells' keys: what they are, what they are parsed into, the least text above all with a beginning. -/
import Derived.Test.YtcjbnpeopalbfaaDoorValM
namespace Go.Proofs.YtcjbnpeopalbfaaDoor
open Go.Op (bytesLess)
open Go.RowKit

/-- A name's bytes, and the keys. -/
def nameK (s : List UInt8) : List UInt8 := keyV ⟨3, 0, s⟩
def rowsK (a : List UInt8) : List UInt8 := [114] ++ nameK a
def rowK (a : List UInt8) (x : Vl) : List UInt8 := rowsK a ++ keyV x
def uniqK (a b : List UInt8) (x : Vl) : List UInt8 := [117] ++ (nameK a ++ nameK b ++ keyV x)
def refsK (a : List UInt8) (x : Vl) (b c : List UInt8) : List UInt8 := [102] ++ (nameK a ++ keyV x ++ nameK b ++ nameK c)
def refK (a : List UInt8) (x : Vl) (b c : List UInt8) (y : Vl) : List UInt8 := refsK a x b c ++ keyV y
def tabK (a : List UInt8) : List UInt8 := [116] ++ nameK a
theorem nameK_len (a : List UInt8) : (nameK a).length ≤ 60 := esc_len2 _
theorem rowK_len (a : List UInt8) (x : Vl) : (rowK a x).length ≤ 121 := by
  have h1 := nameK_len a
  have h2 := esc_len2 x
  simp [rowK, rowsK]; omega
theorem uniqK_len (a b : List UInt8) (x : Vl) : (uniqK a b x).length ≤ 181 := by
  have h1 := nameK_len a
  have h3 := nameK_len b
  have h2 := esc_len2 x
  simp [uniqK]; omega
theorem refK_len (a : List UInt8) (x : Vl) (b c : List UInt8) (y : Vl) : (refK a x b c y).length ≤ 301 := by
  have h1 := nameK_len a
  have h3 := nameK_len b
  have h4 := nameK_len c
  have h2 := esc_len2 x
  have h5 := esc_len2 y
  simp [refK, refsK]; omega
theorem tabK_len (a : List UInt8) : (tabK a).length ≤ 61 := by
  have h1 := nameK_len a
  simp [tabK]; omega

theorem good_name {a : List UInt8} (h : a.length ≤ 24) : goodV ⟨3, 0, a⟩ = true := (goodV_iff _).2 (.inr (.inr (.inr ⟨rfl, rfl, h⟩)))
theorem i64_nought : I64 0 := by unfold I64; decide
theorem cut_name {a : List UInt8} (h : a.length ≤ 24) (s : List UInt8) : cutV (nameK a ++ s) = some (⟨3, 0, a⟩, s) := cut_key (v := ⟨3, 0, a⟩) (good_name h) i64_nought s

/-- A cutter: what is left, and whether a component was missing. -/
structure Cu where
  rest : List UInt8
  bad : Bool
def nullV : Vl := ⟨0, 0, []⟩
def Cu.val (c : Cu) : Vl × Cu := match cutV c.rest with | some (v, q) => (v, ⟨q, c.bad⟩) | none => (nullV, ⟨[], true⟩)
def Cu.name (c : Cu) : List UInt8 × Cu := (c.val.1.text, ⟨c.val.2.rest, c.val.2.bad || !decide (c.val.1.kind = 3)⟩)

structure Pl where
  kind : Nat
  table : List UInt8
  col : List UInt8
  key : Vl
  from_ : List UInt8
  by_ : Vl
def Pl.zero : Pl := ⟨0, [], [], nullV, [], nullV⟩
def Cu.place (c : Cu) (k : UInt8) : Pl × Cu :=
  if k = 114 then (⟨114, c.name.1, [], c.name.2.val.1, [], nullV⟩, c.name.2.val.2)
  else if k = 117 then (⟨117, c.name.1, c.name.2.name.1, c.name.2.name.2.val.1, [], nullV⟩, c.name.2.name.2.val.2)
  else if k = 102 then (⟨102, c.name.1, c.name.2.val.2.name.2.name.1, c.name.2.val.1, c.name.2.val.2.name.1, c.name.2.val.2.name.2.name.2.val.1⟩, c.name.2.val.2.name.2.name.2.val.2)
  else if k = 116 then (⟨116, c.name.1, [], nullV, [], nullV⟩, c.name.2)
  else (Pl.zero, ⟨c.rest, true⟩)
def parseK : List UInt8 → Option Pl
  | [] => none
  | k :: r => let p := Cu.place ⟨r, false⟩ k; if p.2.bad = true ∨ p.2.rest ≠ [] then none else some p.1

theorem val_key {v : Vl} (g : goodV v = true) (hn : I64 v.num) (s : List UInt8) : Cu.val ⟨keyV v ++ s, false⟩ = (v, ⟨s, false⟩) := by
  unfold Cu.val; rw [cut_key g hn s]
theorem name_key {a : List UInt8} (h : a.length ≤ 24) (s : List UInt8) : Cu.name ⟨nameK a ++ s, false⟩ = (a, ⟨s, false⟩) := by
  unfold Cu.name Cu.val; rw [cut_name h s]; rfl

theorem parse_row {a : List UInt8} {x : Vl} (ha : a.length ≤ 24) (hx : goodV x = true) (ix : I64 x.num) : parseK (rowK a x) = some ⟨114, a, [], x, [], nullV⟩ := by
  have h1 := name_key ha (keyV x)
  have h2 := val_key hx ix []
  rw [List.append_nil] at h2
  show (let p := Cu.place ⟨nameK a ++ keyV x, false⟩ 114; if p.2.bad = true ∨ p.2.rest ≠ [] then none else some p.1) = _
  unfold Cu.place
  rw [if_pos (rfl : (114 : UInt8) = 114)]
  simp [h1, h2]
theorem parse_uniq {a b : List UInt8} {x : Vl} (ha : a.length ≤ 24) (hb : b.length ≤ 24) (hx : goodV x = true) (ix : I64 x.num) : parseK (uniqK a b x) = some ⟨117, a, b, x, [], nullV⟩ := by
  have h1 := name_key ha (nameK b ++ keyV x)
  have h3 := name_key hb (keyV x)
  have h2 := val_key hx ix []
  rw [List.append_nil] at h2
  show (let p := Cu.place ⟨nameK a ++ nameK b ++ keyV x, false⟩ 117; if p.2.bad = true ∨ p.2.rest ≠ [] then none else some p.1) = _
  unfold Cu.place
  rw [if_neg (show ¬ (117 : UInt8) = 114 by decide), if_pos (rfl : (117 : UInt8) = 117), List.append_assoc]
  simp [h1, h2, h3]
theorem parse_ref {a b c : List UInt8} {x y : Vl} (ha : a.length ≤ 24) (hb : b.length ≤ 24) (hc : c.length ≤ 24) (hx : goodV x = true) (ix : I64 x.num) (hy : goodV y = true) (iy : I64 y.num) :
    parseK (refK a x b c y) = some ⟨102, a, c, x, b, y⟩ := by
  have h1 := name_key ha (keyV x ++ (nameK b ++ (nameK c ++ keyV y)))
  have h2 := val_key hx ix (nameK b ++ (nameK c ++ keyV y))
  have h3 := name_key hb (nameK c ++ keyV y)
  have h4 := name_key hc (keyV y)
  have h5 := val_key hy iy []
  rw [List.append_nil] at h5
  show (let p := Cu.place ⟨nameK a ++ keyV x ++ nameK b ++ nameK c ++ keyV y, false⟩ 102; if p.2.bad = true ∨ p.2.rest ≠ [] then none else some p.1) = _
  unfold Cu.place
  rw [if_neg (show ¬ (102 : UInt8) = 114 by decide), if_neg (show ¬ (102 : UInt8) = 117 by decide), if_pos (rfl : (102 : UInt8) = 102), List.append_assoc, List.append_assoc, List.append_assoc]
  simp [h1, h2, h3, h4, h5]
theorem parse_tab {a : List UInt8} (ha : a.length ≤ 24) : parseK (tabK a) = some ⟨116, a, [], nullV, [], nullV⟩ := by
  have h1 := name_key ha []
  rw [List.append_nil] at h1
  show (let p := Cu.place ⟨nameK a, false⟩ 116; if p.2.bad = true ∨ p.2.rest ≠ [] then none else some p.1) = _
  unfold Cu.place
  rw [if_neg (show ¬ (116 : UInt8) = 114 by decide), if_neg (show ¬ (116 : UInt8) = 117 by decide), if_neg (show ¬ (116 : UInt8) = 102 by decide), if_pos (rfl : (116 : UInt8) = 116)]
  simp [h1]

/-- What a cutter that has not failed took. -/
theorem val_back {c : Cu} (h : c.val.2.bad = false) : c.bad = false ∧ goodV c.val.1 = true ∧ keyV c.val.1 ++ c.val.2.rest = c.rest ∧ I64 c.val.1.num := by
  unfold Cu.val at h ⊢
  cases hc : cutV c.rest with
  | none => rw [hc] at h; cases h
  | some vq =>
    obtain ⟨v, q⟩ := vq
    rw [hc] at h
    obtain ⟨g, e, i⟩ := cut_some hc
    exact ⟨h, g, e, i⟩
theorem name_back {c : Cu} (h : c.name.2.bad = false) : c.bad = false ∧ c.name.1.length ≤ 24 ∧ nameK c.name.1 ++ c.name.2.rest = c.rest := by
  unfold Cu.name at h ⊢
  simp only [Bool.or_eq_false_iff, Bool.not_eq_false', decide_eq_true_eq] at h ⊢
  obtain ⟨h1, h2⟩ := h
  obtain ⟨b, g, e, i⟩ := val_back h1
  rcases (goodV_iff _).1 g with ⟨k, _⟩ | ⟨k, _⟩ | ⟨k, _⟩ | ⟨k, n, l⟩ <;> first | omega | skip
  refine ⟨b, l, ?_⟩
  rw [← e, nameK, Vl.ext' (a := ⟨3, 0, c.val.1.text⟩) (b := c.val.1) k.symm n.symm rfl]

/-- What is parsed is the key of the result. -/
structure Parsed (s : List UInt8) (p : Pl) : Prop where
  table : p.table.length ≤ 24
  col : p.col.length ≤ 24
  from_ : p.from_.length ≤ 24
  key : goodV p.key = true
  by_ : goodV p.by_ = true
  keyN : I64 p.key.num
  byN : I64 p.by_.num
  is : (p.kind = 114 ∧ rowK p.table p.key = s) ∨ (p.kind = 117 ∧ uniqK p.table p.col p.key = s) ∨ (p.kind = 102 ∧ refK p.table p.key p.from_ p.col p.by_ = s) ∨ (p.kind = 116 ∧ tabK p.table = s)
theorem good_null : goodV nullV = true := by decide
theorem parse_some {s : List UInt8} {p : Pl} (h : parseK s = some p) : Parsed s p := by
  cases s with
  | nil => cases h
  | cons k r =>
    replace h : (if (Cu.place ⟨r, false⟩ k).2.bad = true ∨ (Cu.place ⟨r, false⟩ k).2.rest ≠ [] then none else some (Cu.place ⟨r, false⟩ k).1) = some p := h
    split at h
    · cases h
    rename_i hn
    obtain ⟨hb, hr⟩ : (Cu.place ⟨r, false⟩ k).2.bad = false ∧ (Cu.place ⟨r, false⟩ k).2.rest = [] := by
      constructor
      · cases hx : (Cu.place ⟨r, false⟩ k).2.bad
        · rfl
        · exact absurd (.inl hx) hn
      · exact Classical.byContradiction fun e => hn (.inr e)
    clear hn
    injection h with h
    subst h
    unfold Cu.place at hb hr ⊢
    by_cases h1 : k = 114
    · rw [if_pos h1] at hb hr ⊢
      subst h1
      simp only at hb hr ⊢
      obtain ⟨b1, g1, e1, i1⟩ := val_back hb
      obtain ⟨b2, l2, e2⟩ := name_back b1
      refine ⟨l2, by simp, by simp, g1, good_null, i1, i64_nought, .inl ⟨rfl, ?_⟩⟩
      simp only at e2
      rw [hr, List.append_nil] at e1
      rw [← e1] at e2
      show 114 :: (nameK _ ++ keyV _) = _
      rw [e2]
    rw [if_neg h1] at hb hr ⊢
    by_cases h2 : k = 117
    · rw [if_pos h2] at hb hr ⊢
      subst h2
      simp only at hb hr ⊢
      obtain ⟨b1, g1, e1, i1⟩ := val_back hb
      obtain ⟨b2, l2, e2⟩ := name_back b1
      obtain ⟨b3, l3, e3⟩ := name_back b2
      refine ⟨l3, l2, by simp, g1, good_null, i1, i64_nought, .inr (.inl ⟨rfl, ?_⟩)⟩
      simp only at e3
      rw [hr, List.append_nil] at e1
      rw [← e1] at e2
      rw [← e2] at e3
      show 117 :: (nameK _ ++ nameK _ ++ keyV _) = _
      rw [List.append_assoc, e3]
    rw [if_neg h2] at hb hr ⊢
    by_cases h3 : k = 102
    · rw [if_pos h3] at hb hr ⊢
      subst h3
      simp only at hb hr ⊢
      obtain ⟨b1, g1, e1, i1⟩ := val_back hb
      obtain ⟨b2, l2, e2⟩ := name_back b1
      obtain ⟨b3, l3, e3⟩ := name_back b2
      obtain ⟨b4, g4, e4, i4⟩ := val_back b3
      obtain ⟨b5, l5, e5⟩ := name_back b4
      refine ⟨l5, l2, l3, g4, g1, i4, i1, .inr (.inr (.inl ⟨rfl, ?_⟩))⟩
      simp only at e5
      rw [hr, List.append_nil] at e1
      rw [← e1] at e2
      rw [← e2] at e3
      rw [← e3] at e4
      rw [← e4] at e5
      show 102 :: (nameK _ ++ keyV _ ++ nameK _ ++ nameK _ ++ keyV _) = _
      rw [List.append_assoc, List.append_assoc, List.append_assoc, e5]
    rw [if_neg h3] at hb hr ⊢
    by_cases h4 : k = 116
    · rw [if_pos h4] at hb hr ⊢
      subst h4
      simp only at hb hr ⊢
      obtain ⟨b2, l2, e2⟩ := name_back hb
      refine ⟨l2, by simp, by simp, good_null, good_null, i64_nought, i64_nought, .inr (.inr (.inr ⟨rfl, ?_⟩))⟩
      simp only at e2
      rw [hr, List.append_nil] at e2
      show 116 :: nameK _ = _
      rw [e2]
    rw [if_neg h4] at hb
    cases hb

/-- A key's home, its shard. -/
def homeK (s : List UInt8) : List UInt8 := match parseK s with | some p => if p.kind = 102 then rowK p.table p.key else s | none => s
theorem home_row {a : List UInt8} {x : Vl} (ha : a.length ≤ 24) (hx : goodV x = true) (ix : I64 x.num) : homeK (rowK a x) = rowK a x := by
  unfold homeK; rw [parse_row ha hx ix]; rfl
theorem home_uniq {a b : List UInt8} {x : Vl} (ha : a.length ≤ 24) (hb : b.length ≤ 24) (hx : goodV x = true) (ix : I64 x.num) : homeK (uniqK a b x) = uniqK a b x := by
  unfold homeK; rw [parse_uniq ha hb hx ix]; rfl
theorem home_ref {a b c : List UInt8} {x y : Vl} (ha : a.length ≤ 24) (hb : b.length ≤ 24) (hc : c.length ≤ 24) (hx : goodV x = true) (ix : I64 x.num) (hy : goodV y = true) (iy : I64 y.num) :
    homeK (refK a x b c y) = rowK a x := by
  unfold homeK; rw [parse_ref ha hb hc hx ix hy iy]; rfl

/-- The least text above all with a beginning. -/
def afterR : List UInt8 → List UInt8
  | [] => []
  | b :: r => if b.toNat < 255 then (b.toNat + 1).toUInt8 :: r else afterR r
def afterK (s : List UInt8) : List UInt8 := (afterR s.reverse).reverse
theorem after_nil : afterK [] = [] := rfl
theorem after_snoc (s : List UInt8) (b : UInt8) : afterK (s ++ [b]) = if b.toNat < 255 then s ++ [(b.toNat + 1).toUInt8] else afterK s := by
  unfold afterK
  rw [List.reverse_append]
  show (afterR (b :: s.reverse)).reverse = _
  rw [afterR]
  split <;> simp
/-- Does t begin with s? -/
def begB (s t : List UInt8) : Bool := decide (t.take s.length = s)
theorem less_nil (t : List UInt8) : bytesLess t [] = false := by cases t <;> rfl
theorem less_app : ∀ (p x y : List UInt8), bytesLess (p ++ x) (p ++ y) = bytesLess x y
  | [], _, _ => rfl
  | b :: p, x, y => by rw [List.cons_append, List.cons_append, less_same, less_app p x y]
theorem less_irr : ∀ t : List UInt8, bytesLess t t = false
  | [] => rfl
  | b :: t => by rw [less_same, less_irr t]
/-- s below t, and no beginning of it. -/
theorem begB_cons (a b : UInt8) (s t : List UInt8) : begB (a :: s) (b :: t) = (decide (b = a) && begB s t) := by
  unfold begB; simp
/-- The last byte may grow. -/
theorem range_grow (b : UInt8) (hb : b.toNat < 255) : ∀ (s t : List UInt8), begB (s ++ [b]) t = (!bytesLess t (s ++ [b]) && bytesLess t (s ++ [(b.toNat + 1).toUInt8]))
  | [], [] => by simp [begB, bytesLess]
  | [], x :: t => by
    have hn : (b.toNat + 1).toUInt8.toNat = b.toNat + 1 := Lib.toUInt8_toNat (by omega)
    rw [List.nil_append, List.nil_append, begB_cons, show begB [] t = true from by simp [begB], Bool.and_true]
    by_cases h1 : x.toNat < b.toNat
    · rw [less_lt h1, decide_eq_false (fun e => by subst e; omega)]; rfl
    by_cases h2 : b.toNat < x.toNat
    · rw [less_gt h2, decide_eq_false (fun e => by subst e; omega)]
      by_cases h3 : b.toNat + 1 < x.toNat
      · rw [less_gt (by omega)]; rfl
      · have e : x = (b.toNat + 1).toUInt8 := UInt8.toNat_inj.1 (by omega)
        rw [← e, less_same, less_nil]; rfl
    · have e : x = b := UInt8.toNat_inj.1 (by omega)
      subst e
      rw [less_same, less_nil, less_lt (by omega)]; simp
  | a :: s, [] => by simp [begB, bytesLess]
  | a :: s, x :: t => by
    rw [List.cons_append, List.cons_append, begB_cons]
    by_cases h1 : x.toNat < a.toNat
    · rw [less_lt h1, decide_eq_false (fun e => by subst e; omega)]; rfl
    by_cases h2 : a.toNat < x.toNat
    · rw [less_gt h2, less_gt h2, decide_eq_false (fun e => by subst e; omega)]; rfl
    have e : x = a := UInt8.toNat_inj.1 (by omega)
    subst e
    rw [less_same, less_same, range_grow b hb s t]; simp
/-- A byte 255 at the end adds nothing above. -/
theorem begB_nil (t : List UInt8) : begB [] t = true := by simp [begB]
theorem begB_big : ∀ (s t : List UInt8) (b : UInt8), b.toNat = 255 → begB (s ++ [b]) t = (!bytesLess t (s ++ [b]) && begB s t)
  | [], [], b, hb => by simp [begB, bytesLess]
  | [], x :: t, b, hb => by
    rw [List.nil_append, begB_cons, begB_nil, begB_nil, Bool.and_true, Bool.and_true]
    have hx := x.toNat_lt
    by_cases h1 : x.toNat < 255
    · rw [less_lt (by omega), decide_eq_false (fun e => by subst e; omega)]; rfl
    · have e : x = b := UInt8.toNat_inj.1 (by omega)
      subst e
      rw [less_same, less_nil]; simp
  | a :: s, [], b, hb => by simp [begB, bytesLess]
  | a :: s, x :: t, b, hb => by
    rw [List.cons_append, begB_cons, begB_cons]
    by_cases h1 : x = a
    · subst h1
      rw [less_same, begB_big s t b hb]; simp
    · rw [decide_eq_false h1]; simp
theorem less_mono : ∀ (s t : List UInt8) (b : UInt8), bytesLess t s = true → bytesLess t (s ++ [b]) = true
  | [], t, b, h => by rw [less_nil] at h; cases h
  | a :: s, [], b, _ => rfl
  | a :: s, x :: t, b, h => by
    rw [List.cons_append]
    rw [less_cons] at h ⊢
    simp only [Bool.or_eq_true, Bool.and_eq_true] at h ⊢
    rcases h with h | ⟨h1, h2⟩
    · exact .inl h
    · exact .inr ⟨h1, less_mono s t b h2⟩
theorem after_ranges : ∀ (n : Nat) (s t : List UInt8), s.length = n → begB s t = if afterK s = [] then !bytesLess t s else (!bytesLess t s && bytesLess t (afterK s))
  | 0, s, t, h => by
    obtain rfl : s = [] := List.eq_nil_of_length_eq_zero h
    rw [after_nil, if_pos rfl, less_nil, begB_nil]; rfl
  | n + 1, s, t, h => by
    obtain ⟨q, b, rfl⟩ : ∃ q b, s = q ++ [b] := ⟨s.dropLast, s.getLast (by intro e; subst e; cases h), (List.dropLast_concat_getLast _).symm⟩
    rw [after_snoc]
    by_cases hb : b.toNat < 255
    · rw [if_pos hb, if_neg (by simp), range_grow b hb]
    · rw [if_neg hb, begB_big q t b (by have := b.toNat_lt; omega), after_ranges n q t (by simpa using h)]
      cases h2 : bytesLess t (q ++ [b])
      · have h1 : bytesLess t q = false := by
          cases h3 : bytesLess t q
          · rfl
          · rw [less_mono q t b h3] at h2; cases h2
        rw [h1]
        split <;> simp
      · split <;> simp

/-- The law's test of ranges. -/
theorem after_is (s t : List UInt8) : begB s t = if afterK s = [] then !bytesLess t s else (!bytesLess t s && bytesLess t (afterK s)) := after_ranges _ s t rfl
theorem rowsK_snoc {a : List UInt8} (ha : a.length ≤ 24) : ∃ q, rowsK a = q ++ [0] := by
  refine ⟨[114] ++ (3 :: (esc a ++ [0])), ?_⟩
  unfold rowsK nameK
  rw [keyV_text rfl (good_name ha)]
  simp
theorem after_rows {a : List UInt8} (ha : a.length ≤ 24) : afterK (rowsK a) ≠ [] := by
  obtain ⟨q, e⟩ := rowsK_snoc ha
  rw [e, after_snoc, if_pos (by decide)]
  simp
theorem beg_rows {a b : List UInt8} (ha : a.length ≤ 24) (hb : b.length ≤ 24) (y : Vl) : begB (rowsK a) (rowK b y) = decide (a = b) := by
  unfold begB
  rw [decide_eq_decide]
  constructor
  · intro e
    have e2 := List.take_append_drop (rowsK a).length (rowK b y)
    rw [e] at e2
    have e3 : nameK a ++ (rowK b y).drop (rowsK a).length = nameK b ++ keyV y := by
      have : [114] ++ (nameK a ++ (rowK b y).drop (rowsK a).length) = [114] ++ (nameK b ++ keyV y) := by
        rw [← List.append_assoc]; exact e2.trans (by simp [rowK, rowsK])
      exact List.append_cancel_left this
    have c1 := cut_name ha ((rowK b y).drop (rowsK a).length)
    rw [e3, cut_name hb] at c1
    injection c1 with c1
    injection c1 with c1 c2
    injection c1 with _ _ c1
    exact c1.symm
  · rintro rfl
    unfold rowK
    simp
theorem in_rows {a b : List UInt8} (ha : a.length ≤ 24) (hb : b.length ≤ 24) (y : Vl) : (!bytesLess (rowK b y) (rowsK a) && bytesLess (rowK b y) (afterK (rowsK a))) = decide (a = b) := by
  have h1 := after_is (rowsK a) (rowK b y)
  rw [if_neg (after_rows ha), beg_rows ha hb] at h1
  exact h1.symm
theorem rows_less (a : List UInt8) {x y : Vl} (gx : goodV x = true) (gy : goodV y = true) (ix : I64 x.num) (iy : I64 y.num) : bytesLess (rowK a x) (rowK a y) = decide (cmpV x y < 0) := by
  rw [cmpV_neg]
  unfold rowK
  rw [less_app]
  by_cases e : x = y
  · subst e
    rw [less_irr]
    unfold lessV
    rw [if_neg (by simp)]
    split
    · simp
    split
    · have : cmpI (keyI x.num) (keyI x.num) = 0 := by simp [cmpI]
      rw [this]; rfl
    · exact (less_irr _).symm
  · exact key_less gx gy ix iy e

/-- Keys of valid components are the same just if the components are. -/
theorem row_inj {a b : List UInt8} {x y : Vl} (ha : a.length ≤ 24) (hb : b.length ≤ 24) (gx : goodV x = true) (gy : goodV y = true) (ix : I64 x.num) (iy : I64 y.num) : (rowK a x == rowK b y) = decide (a = b ∧ x = y) := by
  rw [Bool.eq_iff_iff, beq_iff_eq, decide_eq_true_iff]
  constructor
  · intro e
    have h1 := parse_row ha gx ix
    rw [e, parse_row hb gy iy] at h1
    injection h1 with h1
    injection h1 with _ h1 _ h2
    exact ⟨h1.symm, h2.symm⟩
  · rintro ⟨rfl, rfl⟩; rfl
theorem uniq_inj {a b c : List UInt8} {x y : Vl} (ha : a.length ≤ 24) (hb : b.length ≤ 24) (hc : c.length ≤ 24) (gx : goodV x = true) (gy : goodV y = true) (ix : I64 x.num) (iy : I64 y.num) : (uniqK a b x == uniqK a c y) = decide (b = c ∧ x = y) := by
  rw [Bool.eq_iff_iff, beq_iff_eq, decide_eq_true_iff]
  constructor
  · intro e
    have h1 := parse_uniq ha hb gx ix
    rw [e, parse_uniq ha hc gy iy] at h1
    injection h1 with h1
    injection h1 with _ _ h1 h2
    exact ⟨h1.symm, h2.symm⟩
  · rintro ⟨rfl, rfl⟩; rfl
theorem ref_inj {a b c : List UInt8} {x y : Vl} (ha : a.length ≤ 24) (hb : b.length ≤ 24) (hc : c.length ≤ 24) (gx : goodV x = true) (gy : goodV y = true) (ix : I64 x.num) (iy : I64 y.num) : (refK a x b c y == refK a x c b y) = decide (b = c) := by
  rw [Bool.eq_iff_iff, beq_iff_eq, decide_eq_true_iff]
  constructor
  · intro e
    have h1 := parse_ref ha hb hc gx ix gy iy
    rw [e, parse_ref ha hc hb gx ix gy iy] at h1
    injection h1 with h1
    injection h1 with _ _ h1
  · rintro rfl; rfl
theorem row_uniq (a b c : List UInt8) (x y : Vl) : (rowK a x == uniqK b c y) = false := beq_eq_false_iff_ne.2 fun e => by simp [rowK, rowsK, uniqK] at e
theorem uniq_ref (a b c d e : List UInt8) (x y z : Vl) : (uniqK a b x == refK c y d e z) = false := beq_eq_false_iff_ne.2 fun e => by simp [refK, refsK, uniqK] at e
theorem row_ref (a c d e : List UInt8) (x y z : Vl) : (rowK a x == refK c y d e z) = false := beq_eq_false_iff_ne.2 fun e => by simp [refK, refsK, rowK, rowsK] at e
theorem tab_row (a b : List UInt8) (x : Vl) : (tabK a == rowK b x) = false := beq_eq_false_iff_ne.2 fun e => by simp [tabK, rowK, rowsK] at e
end Go.Proofs.YtcjbnpeopalbfaaDoor
