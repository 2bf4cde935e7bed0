/- Plain mathematics of schemas' bytes: what is decoded is what was encoded, within the bounds; what is read has just these bytes. -/
/- Plain mathematics of schemas' bytes: expressions, columns, tables, grants, schemas. -/
/- The walks of package pack's Reader.Str, Bool and Many. -/
/- Plain mathematics: to replace each byte 0 by the bytes 0, 255 is to mark a text's zeros. No program is named here. -/
import Derived.Test.YtnhalfdddcjicaaGreatQJad
import Derived.Test.YtnhalfdddcjicaaGreatQScA
import Derived.Test.YtnhalfdddcjicaaGreatQJab
import Derived.Lib.ReplaceLaws
namespace Go.Proofs.YtnhalfdddcjicaaGreat

/-- Bytes that spell a number are its encoding. -/
theorem grp_canon : ∀ (l : List UInt8) (i acc u k : Nat), grp i acc l = some (u, k) → ∃ v, u = acc + v * 2 ^ (7 * i) ∧ l = Lib.uvarint v ++ l.drop (k - i) ∧ (0 < i → 0 < v) ∧ i < k
  | [], i, acc, u, k, h => by rw [grp_nil] at h; cases h
  | b :: r, i, acc, u, k, h => by
    rw [grp] at h
    split at h
    · cases h
    split at h
    · cases h
    split at h
    · rename_i hb
      split at h
      · cases h
      · rename_i h0
        injection h with h
        injection h with h1 h2
        refine ⟨b.toNat, h1.symm, ?_, fun hi => by omega, by omega⟩
        rw [Lib.uvarint_small hb, ← h2, show i + 1 - i = 1 by omega]
        simp
    · rename_i hb
      obtain ⟨v, e1, e2, e3, e4⟩ := grp_canon r (i + 1) _ u k h
      have hv := e3 (by omega)
      have hlt := b.toNat_lt
      refine ⟨b.toNat % 128 + 128 * v, ?_, ?_, fun _ => by omega, by omega⟩
      · rw [e1, pow_step, Nat.add_mul, Nat.add_assoc, Nat.mul_comm 128 v, Nat.mul_assoc]
      · rw [Lib.uvarint_big (by omega)]
        have q1 : (b.toNat % 128 + 128 * v) / 128 = v := by omega
        have q2 : ((b.toNat % 128 + 128 * v) % 128 + 128).toUInt8 = b := by
          have : (b.toNat % 128 + 128 * v) % 128 + 128 = b.toNat := by omega
          rw [this]
          simp
        rw [q1, q2, show k - i = (k - (i + 1)) + 1 by omega, List.drop_succ_cons, List.cons_append]
        exact congrArg (b :: ·) e2
/-- What decI gives is encoded so. -/
theorem decI_sound {l : List UInt8} {n : Int} {r : List UInt8} (h : decI l = some (n, r)) : l = enc n ++ r ∧ I64 n := by
  unfold decI at h
  cases hg : grp 0 0 l with
  | none => rw [hg] at h; cases h
  | some x =>
    obtain ⟨u, k⟩ := x
    rw [hg] at h
    injection h with h
    injection h with h1 h2
    subst h1 h2
    obtain ⟨v, e1, e2, _, _⟩ := grp_canon l 0 0 u k hg
    have hu := (grp_ok l 0 0 u k (by omega) (by simp) hg).2.2
    have e1 : u = v := by simpa using e1
    subst e1
    refine ⟨?_, unzig_i64 u hu⟩
    unfold enc
    rw [zigzag_unzig]
    simpa using e2
theorem decI_enc {n : Int} (h : I64 n) (r : List UInt8) : decI (enc n ++ r) = some (n, r) := by
  unfold decI
  rw [grp_enc n h r]
  simp [unzig_zigzag]
theorem decI_nil : decI [] = none := by simp [decI, grp]

def decS (l : List UInt8) : Option (List UInt8 × List UInt8) := (decI l).bind fun x => if x.1 < 0 ∨ (x.2.length : Int) < x.1 then none else some (x.2.take x.1.toNat, x.2.drop x.1.toNat)
def decB (l : List UInt8) : Option (Bool × List UInt8) := (decI l).bind fun x => if x.1 = 0 then some (false, x.2) else if x.1 = 1 then some (true, x.2) else none
def decV (l : List UInt8) : Option (Vl × List UInt8) := (decI l).bind fun k => (decI k.2).bind fun n => (decS n.2).bind fun t => if goodV ⟨k.1, n.1, t.1⟩ = true then some (⟨k.1, n.1, t.1⟩, t.2) else none
def decL {α : Type} (d : List UInt8 → Option (α × List UInt8)) : Nat → List UInt8 → Option (List α × List UInt8)
  | 0, l => some ([], l)
  | n + 1, l => (d l).bind fun x => (decL d n x.2).bind fun y => some (x.1 :: y.1, y.2)
def decM {α : Type} (bound : Int) (d : List UInt8 → Option (α × List UInt8)) (l : List UInt8) : Option (List α × List UInt8) :=
  (decI l).bind fun x => if x.1 < 0 ∨ bound < x.1 ∨ (x.2.length : Int) < x.1 then none else decL d x.1.toNat x.2

theorem decS_sound {l t r : List UInt8} (h : decS l = some (t, r)) : l = encS t ++ r := by
  unfold decS at h
  cases hi : decI l with
  | none => rw [hi] at h; cases h
  | some x =>
    obtain ⟨n, q⟩ := x
    rw [hi, Option.bind_some] at h
    obtain ⟨e, hI⟩ := decI_sound hi
    split at h
    · cases h
    · rename_i hb
      injection h with h
      injection h with h1 h2
      simp only at h1 h2 hb
      have hl : t.length = n.toNat := by rw [← h1, List.length_take]; omega
      unfold encS
      rw [e, List.append_assoc, ← h1, ← h2, List.take_append_drop]
      rw [h1, hl]
      rw [show ((n.toNat : Nat) : Int) = n by omega]
theorem decS_enc {t : List UInt8} (h : t.length ≤ 100000000) (r : List UInt8) : decS (encS t ++ r) = some (t, r) := by
  have hI : I64 (t.length : Int) := by unfold I64; omega
  unfold decS encS
  rw [List.append_assoc, decI_enc hI, Option.bind_some, if_neg (by simp; omega)]
  simp
theorem decB_sound {l r : List UInt8} {b : Bool} (h : decB l = some (b, r)) : l = encB b ++ r := by
  unfold decB at h
  cases hi : decI l with
  | none => rw [hi] at h; cases h
  | some x =>
    obtain ⟨n, q⟩ := x
    rw [hi, Option.bind_some] at h
    obtain ⟨e, hI⟩ := decI_sound hi
    simp only at h
    split at h
    · rename_i hb
      injection h with h; injection h with h1 h2
      rw [e, ← h1, ← h2, hb]; rfl
    · split at h
      · rename_i hb
        injection h with h; injection h with h1 h2
        rw [e, ← h1, ← h2, hb]; rfl
      · cases h
theorem decB_enc (b : Bool) (r : List UInt8) : decB (encB b ++ r) = some (b, r) := by
  unfold decB encB
  cases b
  · rw [decI_enc (by unfold I64; decide), Option.bind_some]; simp
  · rw [decI_enc (by unfold I64; decide), Option.bind_some]; simp
theorem decV_sound {l r : List UInt8} {v : Vl} (h : decV l = some (v, r)) : l = bytesV v ++ r ∧ goodV v = true ∧ I64 v.kind ∧ I64 v.num := by
  unfold decV at h
  cases h1 : decI l with
  | none => rw [h1] at h; cases h
  | some x =>
    obtain ⟨k, q1⟩ := x
    rw [h1, Option.bind_some] at h
    simp only at h
    cases h2 : decI q1 with
    | none => rw [h2] at h; cases h
    | some x =>
      obtain ⟨n, q2⟩ := x
      rw [h2, Option.bind_some] at h
      simp only at h
      cases h3 : decS q2 with
      | none => rw [h3] at h; cases h
      | some x =>
        obtain ⟨t, q3⟩ := x
        rw [h3, Option.bind_some] at h
        simp only at h
        split at h
        · rename_i hg
          injection h with h; injection h with e1 e2
          subst e1 e2
          obtain ⟨f1, i1⟩ := decI_sound h1
          obtain ⟨f2, i2⟩ := decI_sound h2
          have f3 := decS_sound h3
          refine ⟨?_, hg, i1, i2⟩
          unfold bytesV
          rw [f1, f2, f3]
          simp only [List.append_assoc]
        · cases h
theorem decV_enc {v : Vl} (hk : I64 v.kind) (hn : I64 v.num) (ht : v.text.length ≤ 100000000) (r : List UInt8) : decV (bytesV v ++ r) = if goodV v = true then some (v, r) else none := by
  unfold decV bytesV
  rw [List.append_assoc, List.append_assoc, decI_enc hk, Option.bind_some]
  simp only
  rw [decI_enc hn, Option.bind_some]
  simp only
  rw [decS_enc ht, Option.bind_some]
/-- Lists. -/
theorem decL_sound {α : Type} {d : List UInt8 → Option (α × List UInt8)} {f : α → List UInt8} {good : α → Prop} (hd : ∀ l x r, d l = some (x, r) → l = f x ++ r ∧ good x) :
    ∀ (n : Nat) (l : List UInt8) (xs : List α) (r : List UInt8), decL d n l = some (xs, r) → l = (xs.map f).flatten ++ r ∧ xs.length = n ∧ ∀ x ∈ xs, good x
  | 0, l, xs, r, h => by
    rw [decL] at h
    injection h with h; injection h with h1 h2
    subst h1 h2
    simp
  | n + 1, l, xs, r, h => by
    rw [decL] at h
    cases h1 : d l with
    | none => rw [h1] at h; cases h
    | some x =>
      obtain ⟨x, q⟩ := x
      rw [h1, Option.bind_some] at h
      simp only at h
      cases h2 : decL d n q with
      | none => rw [h2] at h; cases h
      | some y =>
        obtain ⟨ys, q2⟩ := y
        rw [h2, Option.bind_some] at h
        injection h with h; injection h with e1 e2
        subst e1 e2
        obtain ⟨f1, g1⟩ := hd l x q h1
        obtain ⟨f2, f3, g2⟩ := decL_sound hd n q ys q2 h2
        refine ⟨?_, by simp [f3], fun z hz => ?_⟩
        · rw [f1, f2]; simp
        · rcases List.mem_cons.1 hz with rfl | hz
          · exact g1
          · exact g2 z hz
theorem decM_sound {α : Type} {d : List UInt8 → Option (α × List UInt8)} {f : α → List UInt8} {good : α → Prop} {bound : Int} (hd : ∀ l x r, d l = some (x, r) → l = f x ++ r ∧ good x)
    {l : List UInt8} {xs : List α} {r : List UInt8} (h : decM bound d l = some (xs, r)) : l = enc xs.length ++ (xs.map f).flatten ++ r ∧ (xs.length : Int) ≤ bound ∧ ∀ x ∈ xs, good x := by
  unfold decM at h
  cases hi : decI l with
  | none => rw [hi] at h; cases h
  | some x =>
    obtain ⟨n, q⟩ := x
    rw [hi, Option.bind_some] at h
    simp only at h
    obtain ⟨e, hI⟩ := decI_sound hi
    split at h
    · cases h
    · rename_i hb
      obtain ⟨f1, f2, f3⟩ := decL_sound hd _ _ _ _ h
      refine ⟨?_, by omega, f3⟩
      rw [e, f2, List.append_assoc, ← f1, show ((n.toNat : Nat) : Int) = n by omega]
theorem decL_enc {α : Type} {d : List UInt8 → Option (α × List UInt8)} {f : α → List UInt8} {ok : α → Prop} {fit : α → Bool} (hd : ∀ x r, ok x → d (f x ++ r) = if fit x = true then some (x, r) else none) :
    ∀ (xs : List α) (r : List UInt8), (∀ x ∈ xs, ok x) → decL d xs.length ((xs.map f).flatten ++ r) = if xs.all fit = true then some (xs, r) else none
  | [], r, _ => by simp [decL]
  | x :: xs, r, h => by
    rw [List.length_cons, decL, List.map_cons, List.flatten_cons, List.append_assoc, hd x _ (h x (by simp))]
    cases hf : fit x with
    | false => simp [hf]
    | true =>
      rw [if_pos rfl, Option.bind_some]
      simp only
      rw [decL_enc hd xs r (fun z hz => h z (by simp [hz]))]
      cases ha : xs.all fit <;> simp [hf, ha]
theorem decM_enc {α : Type} {d : List UInt8 → Option (α × List UInt8)} {f : α → List UInt8} {ok : α → Prop} {fit : α → Bool} {bound : Int} (hd : ∀ x r, ok x → d (f x ++ r) = if fit x = true then some (x, r) else none)
    (hpos : ∀ x, 1 ≤ (f x).length) (xs : List α) (r : List UInt8) (h : ∀ x ∈ xs, ok x) (hl : xs.length ≤ 100000000) :
    decM bound d (enc xs.length ++ (xs.map f).flatten ++ r) = if (decide ((xs.length : Int) ≤ bound) && xs.all fit) = true then some (xs, r) else none := by
  have hI : I64 (xs.length : Int) := by unfold I64; omega
  have hlen : ∀ ys : List α, ys.length ≤ ((ys.map f).flatten).length := fun ys => by
    induction ys with
    | nil => simp
    | cons y ys ih => simp only [List.length_cons, List.map_cons, List.flatten_cons, List.length_append]; have := hpos y; omega
  unfold decM
  rw [List.append_assoc, decI_enc hI, Option.bind_some]
  simp only
  by_cases hb : (xs.length : Int) ≤ bound
  · rw [if_neg (by have := hlen xs; simp only [List.length_append]; omega), show ((xs.length : Nat) : Int).toNat = xs.length by omega, decL_enc hd xs r h]
    simp [hb]
  · rw [if_pos (by omega), if_neg (by simp [hb])]
end Go.Proofs.YtnhalfdddcjicaaGreat

namespace Go.Proofs.YtnhalfdddcjicaaGreat

/-- An expression, wherever it lies. -/
inductive Et where
  | mk (op col : Int) (v : Vl) (args : List Et)
instance : Inhabited Et := ⟨.mk 0 0 ⟨0, 0, []⟩ []⟩
mutual
def encE : Et → List UInt8
  | .mk op col v args => enc op ++ enc col ++ bytesV v ++ (enc args.length ++ encEs args)
def encEs : List Et → List UInt8
  | [] => []
  | e :: r => encE e ++ encEs r
end
mutual
def okE : Et → Prop
  | .mk op col v args => I64 op ∧ I64 col ∧ I64 v.kind ∧ I64 v.num ∧ v.text.length ≤ 100000000 ∧ args.length ≤ 100000000 ∧ okEs args
def okEs : List Et → Prop
  | [] => True
  | e :: r => okE e ∧ okEs r
end
theorem encEs_is : ∀ l : List Et, encEs l = (l.map encE).flatten
  | [] => by simp [encEs]
  | e :: r => by rw [encEs, encEs_is r]; simp
theorem okEs_iff : ∀ l : List Et, okEs l ↔ ∀ x ∈ l, okE x
  | [] => by simp [okEs]
  | e :: r => by rw [okEs, okEs_iff r]; simp
theorem encE_is (op col : Int) (v : Vl) (args : List Et) : encE (.mk op col v args) = enc op ++ enc col ++ bytesV v ++ (enc args.length ++ (args.map encE).flatten) := by rw [encE, encEs_is]
theorem encE_pos (e : Et) : 1 ≤ (encE e).length := by
  obtain ⟨op, col, v, args⟩ := e
  rw [encE]
  have := enc_pos op
  simp only [List.length_append]
  omega
def fitsE : Nat → Et → Bool
  | 0, .mk _ _ v args => goodV v && decide (args.length ≤ 0)
  | lv + 1, .mk _ _ v args => goodV v && (decide (args.length ≤ 2) && args.all (fitsE lv))
def decE : Nat → List UInt8 → Option (Et × List UInt8)
  | 0, l => (decI l).bind fun o => (decI o.2).bind fun c => (decV c.2).bind fun v => (decM 0 (fun _ => (none : Option (Et × List UInt8))) v.2).bind fun a => some (.mk o.1 c.1 v.1 a.1, a.2)
  | lv + 1, l => (decI l).bind fun o => (decI o.2).bind fun c => (decV c.2).bind fun v => (decM 2 (decE lv) v.2).bind fun a => some (.mk o.1 c.1 v.1 a.1, a.2)
/-- One step of decE. -/
def stepE (m : List UInt8 → Option (List Et × List UInt8)) (l : List UInt8) : Option (Et × List UInt8) :=
  (decI l).bind fun o => (decI o.2).bind fun c => (decV c.2).bind fun v => (m v.2).bind fun a => some (.mk o.1 c.1 v.1 a.1, a.2)
theorem decE_zero (l : List UInt8) : decE 0 l = stepE (decM 0 (fun _ => none)) l := by rw [decE]; rfl
theorem decE_succ (lv : Nat) (l : List UInt8) : decE (lv + 1) l = stepE (decM 2 (decE lv)) l := by rw [decE]; rfl
theorem stepE_sound {m : List UInt8 → Option (List Et × List UInt8)} {good : List Et → Prop} (hm : ∀ l a r, m l = some (a, r) → l = enc a.length ++ (a.map encE).flatten ++ r ∧ good a)
    {l : List UInt8} {t : Et} {r : List UInt8} (h : stepE m l = some (t, r)) : ∃ op col v args, t = .mk op col v args ∧ l = encE t ++ r ∧ goodV v = true ∧ good args := by
  unfold stepE at h
  cases h1 : decI l with
  | none => rw [h1] at h; cases h
  | some o =>
    obtain ⟨op, q1⟩ := o
    rw [h1, Option.bind_some] at h
    simp only at h
    cases h2 : decI q1 with
    | none => rw [h2] at h; cases h
    | some c =>
      obtain ⟨col, q2⟩ := c
      rw [h2, Option.bind_some] at h
      simp only at h
      cases h3 : decV q2 with
      | none => rw [h3] at h; cases h
      | some x =>
        obtain ⟨v, q3⟩ := x
        rw [h3, Option.bind_some] at h
        simp only at h
        cases h4 : m q3 with
        | none => rw [h4] at h; cases h
        | some a =>
          obtain ⟨args, q4⟩ := a
          rw [h4, Option.bind_some] at h
          injection h with h; injection h with e1 e2
          subst e1 e2
          obtain ⟨f1, _⟩ := decI_sound h1
          obtain ⟨f2, _⟩ := decI_sound h2
          obtain ⟨f3, g3, _, _⟩ := decV_sound h3
          obtain ⟨f4, g4⟩ := hm _ _ _ h4
          refine ⟨op, col, v, args, rfl, ?_, g3, g4⟩
          rw [encE_is, f1, f2, f3, f4]
          simp only [List.append_assoc]
theorem decE_sound : ∀ (lv : Nat) (l : List UInt8) (t : Et) (r : List UInt8), decE lv l = some (t, r) → l = encE t ++ r ∧ fitsE lv t = true
  | 0, l, t, r, h => by
    rw [decE_zero] at h
    obtain ⟨op, col, v, args, rfl, e, g1, g2⟩ := stepE_sound (good := fun a => (a.length : Int) ≤ 0) (fun l a r hm => by
      obtain ⟨h1, h2, _⟩ := decM_sound (f := encE) (good := fun _ => True) (fun l x r hx => by cases hx) hm
      exact ⟨h1, h2⟩) h
    refine ⟨e, ?_⟩
    rw [fitsE, g1]
    simp
    have : args.length = 0 := by omega
    exact List.eq_nil_of_length_eq_zero this
  | lv + 1, l, t, r, h => by
    rw [decE_succ] at h
    obtain ⟨op, col, v, args, rfl, e, g1, g2⟩ := stepE_sound (good := fun a => (a.length : Int) ≤ 2 ∧ ∀ x ∈ a, fitsE lv x = true) (fun l a r hm => by
      obtain ⟨h1, h2, h3⟩ := decM_sound (f := encE) (good := fun x => fitsE lv x = true) (fun l x r hx => decE_sound lv l x r hx) hm
      exact ⟨h1, h2, h3⟩) h
    refine ⟨e, ?_⟩
    rw [fitsE, g1, List.all_eq_true.2 g2.2]
    have : args.length ≤ 2 := by omega
    simp [this]
theorem stepE_enc {m : List UInt8 → Option (List Et × List UInt8)} {fit : List Et → Bool} {op col : Int} {v : Vl} {args : List Et} (ho : okE (.mk op col v args))
    (hm : ∀ r, m (enc args.length ++ (args.map encE).flatten ++ r) = if fit args = true then some (args, r) else none) (r : List UInt8) :
    stepE m (encE (.mk op col v args) ++ r) = if (goodV v && fit args) = true then some (.mk op col v args, r) else none := by
  rw [okE] at ho
  obtain ⟨h1, h2, h3, h4, h5, _, _⟩ := ho
  unfold stepE
  rw [encE_is]
  simp only [List.append_assoc]
  rw [decI_enc h1, Option.bind_some]
  simp only
  rw [decI_enc h2, Option.bind_some]
  simp only
  rw [decV_enc h3 h4 h5]
  cases hg : goodV v with
  | false => simp
  | true =>
    rw [if_pos rfl, Option.bind_some]
    simp only
    rw [← List.append_assoc (enc (args.length : Int)), hm r]
    cases hf : fit args <;> simp
theorem decE_enc : ∀ (lv : Nat) (t : Et) (r : List UInt8), okE t → decE lv (encE t ++ r) = if fitsE lv t = true then some (t, r) else none
  | 0, .mk op col v args, r, ho => by
    have ho' := ho
    rw [okE] at ho'
    rw [decE_zero, stepE_enc (fit := fun a => decide ((a.length : Int) ≤ 0) && a.all fun _ => false) ho (fun r => decM_enc (ok := fun _ => True) (fun x r _ => by simp) encE_pos args r (fun _ _ => trivial) ho'.2.2.2.2.2.1) r, fitsE]
    cases args with
    | nil => simp
    | cons a b =>
      have e1 : decide (((a :: b).length : Int) ≤ 0) = false := by rw [decide_eq_false_iff_not, List.length_cons]; omega
      have e2 : decide ((a :: b).length ≤ 0) = false := by simp
      rw [e1, e2, Bool.false_and]
  | lv + 1, .mk op col v args, r, ho => by
    have ho' := ho
    rw [okE] at ho'
    rw [decE_succ, stepE_enc (fit := fun a => decide ((a.length : Int) ≤ 2) && a.all (fitsE lv)) ho (fun r => decM_enc (ok := okE) (fun x r hx => decE_enc lv x r hx) encE_pos args r ((okEs_iff args).1 ho'.2.2.2.2.2.2) ho'.2.2.2.2.2.1) r, fitsE]
    have e1 : decide ((args.length : Int) ≤ 2) = decide (args.length ≤ 2) := by rw [Bool.eq_iff_iff]; simp; omega
    rw [e1]

def encC (c : Co) : List UInt8 := encS c.name ++ (encS c.ref ++ (enc c.kind ++ (enc c.del ++ (encB c.nn ++ encB c.un))))
def encG (g : Gr) : List UInt8 := enc g.role ++ (enc g.bits ++ encS g.table)
def decC (l : List UInt8) : Option (Co × List UInt8) :=
  (decS l).bind fun n => (decS n.2).bind fun f => (decI f.2).bind fun k => (decI k.2).bind fun d => (decB d.2).bind fun a => (decB a.2).bind fun u => some (⟨n.1, k.1, a.1, u.1, f.1, d.1⟩, u.2)
def decG (l : List UInt8) : Option (Gr × List UInt8) := (decI l).bind fun o => (decI o.2).bind fun b => (decS b.2).bind fun t => some (⟨o.1, t.1, b.1⟩, t.2)
/-- A table, a schema, wherever they lie. -/
structure Td where
  name : List UInt8
  owner : Int
  cols : List Co
  chks : List Et
structure Sd where
  ver : Int
  tabs : List Td
  grants : List Gr
def encT (t : Td) : List UInt8 := encS t.name ++ (enc t.owner ++ ((enc t.cols.length ++ (t.cols.map encC).flatten) ++ (enc t.chks.length ++ (t.chks.map encE).flatten)))
def encSd (s : Sd) : List UInt8 := enc s.ver ++ ((enc s.tabs.length ++ (s.tabs.map encT).flatten) ++ (enc s.grants.length ++ (s.grants.map encG).flatten))
def decT (l : List UInt8) : Option (Td × List UInt8) :=
  (decS l).bind fun n => (decI n.2).bind fun o => (decM 6 decC o.2).bind fun c => (decM 4 (decE 8) c.2).bind fun x => some (⟨n.1, o.1, c.1, x.1⟩, x.2)
def decSd (l : List UInt8) : Option (Sd × List UInt8) :=
  (decI l).bind fun v => (decM 12 decT v.2).bind fun t => (decM 64 decG t.2).bind fun g => some (⟨v.1, t.1, g.1⟩, g.2)
def fitsT (t : Td) : Bool := decide (t.cols.length ≤ 6) && (decide (t.chks.length ≤ 4) && t.chks.all (fitsE 8))
def fitsS (s : Sd) : Bool := decide (s.tabs.length ≤ 12) && (decide (s.grants.length ≤ 64) && s.tabs.all fitsT)
theorem decC_sound {l : List UInt8} {c : Co} {r : List UInt8} (h : decC l = some (c, r)) : l = encC c ++ r := by
  unfold decC at h
  simp only [Option.bind_eq_some_iff] at h
  obtain ⟨⟨n, q1⟩, h1, ⟨f, q2⟩, h2, ⟨k, q3⟩, h3, ⟨d, q4⟩, h4, ⟨a, q5⟩, h5, ⟨u, q6⟩, h6, h7⟩ := h
  injection h7 with h7; injection h7 with e1 e2
  subst e1 e2
  dsimp only at *
  rw [decS_sound h1, decS_sound h2, (decI_sound h3).1, (decI_sound h4).1, decB_sound h5, decB_sound h6]
  simp [encC]
theorem decG_sound {l : List UInt8} {g : Gr} {r : List UInt8} (h : decG l = some (g, r)) : l = encG g ++ r := by
  unfold decG at h
  simp only [Option.bind_eq_some_iff] at h
  obtain ⟨⟨n, q1⟩, h1, ⟨f, q2⟩, h2, ⟨k, q3⟩, h3, h7⟩ := h
  injection h7 with h7; injection h7 with e1 e2
  subst e1 e2
  dsimp only at *
  rw [(decI_sound h1).1, (decI_sound h2).1, decS_sound h3]
  simp [encG]
theorem decT_sound {l : List UInt8} {t : Td} {r : List UInt8} (h : decT l = some (t, r)) : l = encT t ++ r ∧ fitsT t = true := by
  unfold decT at h
  simp only [Option.bind_eq_some_iff] at h
  obtain ⟨⟨n, q1⟩, h1, ⟨o, q2⟩, h2, ⟨c, q3⟩, h3, ⟨x, q4⟩, h4, h7⟩ := h
  injection h7 with h7; injection h7 with e1 e2
  subst e1 e2
  dsimp only at *
  obtain ⟨f3, b3, _⟩ := decM_sound (f := encC) (good := fun _ => True) (fun l x r hx => ⟨decC_sound hx, trivial⟩) h3
  obtain ⟨f4, b4, g4⟩ := decM_sound (f := encE) (good := fun x => fitsE 8 x = true) (fun l x r hx => decE_sound 8 l x r hx) h4
  refine ⟨?_, ?_⟩
  · rw [decS_sound h1, (decI_sound h2).1, f3, f4]
    simp [encT]
  · unfold fitsT
    simp only
    rw [List.all_eq_true.2 g4]
    simp
    omega
theorem decSd_sound {l : List UInt8} {s : Sd} {r : List UInt8} (h : decSd l = some (s, r)) : l = encSd s ++ r ∧ fitsS s = true := by
  unfold decSd at h
  simp only [Option.bind_eq_some_iff] at h
  obtain ⟨⟨n, q1⟩, h1, ⟨o, q2⟩, h2, ⟨c, q3⟩, h3, h7⟩ := h
  injection h7 with h7; injection h7 with e1 e2
  subst e1 e2
  dsimp only at *
  obtain ⟨f2, b2, g2⟩ := decM_sound (f := encT) (good := fun x => fitsT x = true) (fun l x r hx => decT_sound hx) h2
  obtain ⟨f3, b3, _⟩ := decM_sound (f := encG) (good := fun _ => True) (fun l x r hx => ⟨decG_sound hx, trivial⟩) h3
  refine ⟨?_, ?_⟩
  · rw [(decI_sound h1).1, f2, f3]
    simp [encSd]
  · unfold fitsS
    simp only
    rw [List.all_eq_true.2 g2]
    simp
    omega
def okC (c : Co) : Prop := I64 c.kind ∧ I64 c.del ∧ c.name.length ≤ 100000000 ∧ c.ref.length ≤ 100000000
def okG (g : Gr) : Prop := I64 g.role ∧ I64 g.bits ∧ g.table.length ≤ 100000000
structure okT (t : Td) : Prop where
  owner : I64 t.owner
  name : t.name.length ≤ 100000000
  cn : t.cols.length ≤ 100000000
  cols : ∀ c ∈ t.cols, okC c
  xn : t.chks.length ≤ 100000000
  chks : ∀ c ∈ t.chks, okE c
structure okS (s : Sd) : Prop where
  ver : I64 s.ver
  tn : s.tabs.length ≤ 100000000
  tabs : ∀ c ∈ s.tabs, okT c
  gn : s.grants.length ≤ 100000000
  grants : ∀ c ∈ s.grants, okG c
theorem encS_pos (t : List UInt8) : 1 ≤ (encS t).length := by unfold encS; rw [List.length_append]; have := enc_pos (t.length : Int); omega
theorem encC_pos (c : Co) : 1 ≤ (encC c).length := by unfold encC; rw [List.length_append]; have := encS_pos c.name; omega
theorem encG_pos (c : Gr) : 1 ≤ (encG c).length := by unfold encG; rw [List.length_append]; have := enc_pos c.role; omega
theorem encT_pos (c : Td) : 1 ≤ (encT c).length := by unfold encT; rw [List.length_append]; have := encS_pos c.name; omega
theorem decC_enc (c : Co) (r : List UInt8) (h : okC c) : decC (encC c ++ r) = some (c, r) := by
  obtain ⟨h1, h2, h3, h4⟩ := h
  unfold decC encC
  simp only [List.append_assoc]
  simp [decS_enc h3, decS_enc h4, decI_enc h1, decI_enc h2, decB_enc]
theorem decG_enc (c : Gr) (r : List UInt8) (h : okG c) : decG (encG c ++ r) = some (c, r) := by
  obtain ⟨h1, h2, h3⟩ := h
  unfold decG encG
  simp only [List.append_assoc]
  simp [decS_enc h3, decI_enc h1, decI_enc h2]
theorem decT_enc (t : Td) (r : List UInt8) (h : okT t) : decT (encT t ++ r) = if fitsT t = true then some (t, r) else none := by
  have e1 := fun r => decM_enc (d := decC) (bound := 6) (ok := okC) (fit := fun _ => true) (fun x r hx => by rw [decC_enc x r hx]; rfl) encC_pos t.cols r h.cols h.cn
  have e2 := fun r => decM_enc (bound := 4) (ok := okE) (fit := fitsE 8) (fun x r hx => decE_enc 8 x r hx) encE_pos t.chks r h.chks h.xn
  unfold decT encT
  rw [List.append_assoc, decS_enc h.name, Option.bind_some]
  simp only
  rw [List.append_assoc, decI_enc h.owner, Option.bind_some]
  simp only
  rw [List.append_assoc (enc (t.cols.length : Int) ++ _), e1]
  unfold fitsT
  have q1 : decide ((t.cols.length : Int) ≤ 6) = decide (t.cols.length ≤ 6) := by rw [Bool.eq_iff_iff]; simp; omega
  have q2 : decide ((t.chks.length : Int) ≤ 4) = decide (t.chks.length ≤ 4) := by rw [Bool.eq_iff_iff]; simp; omega
  rw [q1]
  cases hc : decide (t.cols.length ≤ 6) with
  | false => simp
  | true =>
    have ha : t.cols.all (fun _ => true) = true := by simp
    rw [ha, Bool.and_self, if_pos rfl, Option.bind_some]
    simp only
    rw [e2, q2]
    cases hd : (decide (t.chks.length ≤ 4) && t.chks.all (fitsE 8)) <;> simp
theorem decSd_enc (s : Sd) (r : List UInt8) (h : okS s) : decSd (encSd s ++ r) = if fitsS s = true then some (s, r) else none := by
  have e1 := fun r => decM_enc (bound := 12) (ok := okT) (fit := fitsT) (fun x r hx => decT_enc x r hx) encT_pos s.tabs r h.tabs h.tn
  have e2 := fun r => decM_enc (d := decG) (bound := 64) (ok := okG) (fit := fun _ => true) (fun x r hx => by rw [decG_enc x r hx]; rfl) encG_pos s.grants r h.grants h.gn
  unfold decSd encSd
  rw [List.append_assoc, decI_enc h.ver, Option.bind_some]
  simp only
  rw [List.append_assoc (enc (s.tabs.length : Int) ++ _), e1]
  unfold fitsS
  have q1 : decide ((s.tabs.length : Int) ≤ 12) = decide (s.tabs.length ≤ 12) := by rw [Bool.eq_iff_iff]; simp; omega
  have q2 : decide ((s.grants.length : Int) ≤ 64) = decide (s.grants.length ≤ 64) := by rw [Bool.eq_iff_iff]; simp; omega
  rw [q1]
  cases hc : decide (s.tabs.length ≤ 12) with
  | false => simp
  | true =>
    cases ht : s.tabs.all fitsT with
    | false => simp
    | true =>
      rw [Bool.and_self, if_pos rfl, Option.bind_some]
      simp only
      have ha : s.grants.all (fun _ => true) = true := by simp
      rw [e2, q2, ha]
      cases hd : decide (s.grants.length ≤ 64) <;> simp
end Go.Proofs.YtnhalfdddcjicaaGreat

namespace Go.Proofs.YtnhalfdddcjicaaGreat
open Go.RowKit

end Go.Proofs.YtnhalfdddcjicaaGreat

namespace Go.Proofs.YtnhalfdddcjicaaGreat

theorem index_zero (l : List UInt8) : Lib.index (0 :: l) [0] = 0 := by
  rw [Lib.index, if_pos (by simp [List.isPrefixOf])]
theorem index_step {b : UInt8} (h : b ≠ 0) (l : List UInt8) : Lib.index (b :: l) [0] = if Lib.index l [0] == -1 then -1 else Lib.index l [0] + 1 := by
  have : ([0] : List UInt8).isPrefixOf (b :: l) = false := by simp [List.isPrefixOf, Ne.symm h]
  rw [Lib.index, this]
  rfl
theorem index_cases (l : List UInt8) : Lib.index l [0] = -1 ∨ ∃ i : Nat, Lib.index l [0] = i := by
  have := Lib.index_ge l [0]
  rcases Int.lt_or_le (Lib.index l [0]) 0 with h | h
  · exact .inl (by omega)
  · exact .inr ⟨(Lib.index l [0]).toNat, by omega⟩
theorem count_skip {b : UInt8} (h : b ≠ 0) (l : List UInt8) : Lib.count (b :: l) [0] = Lib.count l [0] := by
  rcases index_cases l with e | ⟨i, e⟩
  · have e2 : Lib.index (b :: l) [0] = -1 := by rw [index_step h, e]; rfl
    rw [Lib.count_miss e2, Lib.count_miss e]
  · have e2 : Lib.index (b :: l) [0] = ((i + 1 : Nat) : Int) := by
      rw [index_step h, e, if_neg (by simp)]; rfl
    rw [Lib.count_hit (by simp) e2, Lib.count_hit (by simp) e]
    rfl
theorem replaceK_skip {b : UInt8} (h : b ≠ 0) (new : List UInt8) (k : Nat) (l : List UInt8) : Lib.replaceK [0] new k (b :: l) = b :: Lib.replaceK [0] new k l := by
  cases k with
  | zero => rfl
  | succ k =>
    rcases index_cases l with e | ⟨i, e⟩
    · have e2 : Lib.index (b :: l) [0] = -1 := by rw [index_step h, e]; rfl
      rw [Lib.replaceK, Lib.replaceK, e, e2]; rfl
    · have e2 : Lib.index (b :: l) [0] = ((i + 1 : Nat) : Int) := by
        rw [index_step h, e, if_neg (by simp)]; rfl
      rw [Lib.replaceK_hit _ _ _ _ _ e, Lib.replaceK_hit _ _ _ _ _ e2]
      simp
theorem replaceK_esc : ∀ l : List UInt8, Lib.replaceK [0] [0, 255] (Lib.count l [0]) l = esc l
  | [] => by
    rw [Lib.count_miss (by rfl)]; rfl
  | b :: l => by
    by_cases h : b = 0
    · subst h
      have e := index_zero l
      rw [Lib.count_hit (by simp) (i := 0) e, Nat.add_comm, Lib.replaceK_hit _ _ _ _ 0 e, esc_zero]
      simp [replaceK_esc l]
    · rw [count_skip h, replaceK_skip h, replaceK_esc l, esc_else h]
theorem replace_esc (l : List UInt8) : Lib.replaceK [0] [0, 255] (Lib.replaceNum l [0] (-1)) l = esc l := by
  unfold Lib.replaceNum
  rw [if_pos (.inl (by decide))]
  exact replaceK_esc l
theorem esc_none {l : List UInt8} (h : Lib.count l [0] = 0) : esc l = l := by
  rw [← replaceK_esc l, h]; rfl
theorem esc_snoc : ∀ (x : List UInt8) (b : UInt8), esc (x ++ [b]) = esc x ++ (if b = 0 then [0, 255] else [b])
  | [], b => by by_cases h : b = 0 <;> simp [esc, h]
  | a :: x, b => by
    rw [List.cons_append]
    by_cases h : a = 0
    · subst h; rw [esc_zero, esc_zero, esc_snoc x b]; rfl
    · rw [esc_else h, esc_else h, esc_snoc x b]; rfl
end Go.Proofs.YtnhalfdddcjicaaGreat
