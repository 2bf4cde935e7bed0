/- Plain mathematics of schemas' bytes: what is decoded is what was encoded, within the bounds; what is read has just these bytes. -/
import Derived.Test.YtlkeagfmlcbogaaRowM
import Derived.Test.YtlkeagfmlcbogaaScA
namespace Go.Proofs.Ytlkeagfmlcbogaa

/-- Bytes that spell a number are its encoding. -/
theorem grp_canon : ∀ (l : List UInt8) (i acc u k : Nat), grp i acc l = some (u, k) → ∃ v, u = acc + v * 2 ^ (7 * i) ∧ l = Lib.uvarint v ++ l.drop (k - i) ∧ (0 < i → 0 < v) ∧ i < k
  | [], i, acc, u, k, h => by rw [grp_nil] at h; cases h
  | b :: r, i, acc, u, k, h => by
    rw [grp] at h
    split at h
    · cases h
    split at h
    · cases h
    split at h
    · rename_i hb
      split at h
      · cases h
      · rename_i h0
        injection h with h
        injection h with h1 h2
        refine ⟨b.toNat, h1.symm, ?_, fun hi => by omega, by omega⟩
        rw [Lib.uvarint_small hb, ← h2, show i + 1 - i = 1 by omega]
        simp
    · rename_i hb
      obtain ⟨v, e1, e2, e3, e4⟩ := grp_canon r (i + 1) _ u k h
      have hv := e3 (by omega)
      have hlt := b.toNat_lt
      refine ⟨b.toNat % 128 + 128 * v, ?_, ?_, fun _ => by omega, by omega⟩
      · rw [e1, pow_step, Nat.add_mul, Nat.add_assoc, Nat.mul_comm 128 v, Nat.mul_assoc]
      · rw [Lib.uvarint_big (by omega)]
        have q1 : (b.toNat % 128 + 128 * v) / 128 = v := by omega
        have q2 : ((b.toNat % 128 + 128 * v) % 128 + 128).toUInt8 = b := by
          have : (b.toNat % 128 + 128 * v) % 128 + 128 = b.toNat := by omega
          rw [this]
          simp
        rw [q1, q2, show k - i = (k - (i + 1)) + 1 by omega, List.drop_succ_cons, List.cons_append]
        exact congrArg (b :: ·) e2
/-- What decI gives is encoded so. -/
theorem decI_sound {l : List UInt8} {n : Int} {r : List UInt8} (h : decI l = some (n, r)) : l = enc n ++ r ∧ I64 n := by
  unfold decI at h
  cases hg : grp 0 0 l with
  | none => rw [hg] at h; cases h
  | some x =>
    obtain ⟨u, k⟩ := x
    rw [hg] at h
    injection h with h
    injection h with h1 h2
    subst h1 h2
    obtain ⟨v, e1, e2, _, _⟩ := grp_canon l 0 0 u k hg
    have hu := (grp_ok l 0 0 u k (by omega) (by simp) hg).2.2
    have e1 : u = v := by simpa using e1
    subst e1
    refine ⟨?_, unzig_i64 u hu⟩
    unfold enc
    rw [zigzag_unzig]
    simpa using e2
theorem decI_enc {n : Int} (h : I64 n) (r : List UInt8) : decI (enc n ++ r) = some (n, r) := by
  unfold decI
  rw [grp_enc n h r]
  simp [unzig_zigzag]
theorem decI_nil : decI [] = none := by simp [decI, grp]

def decS (l : List UInt8) : Option (List UInt8 × List UInt8) := (decI l).bind fun x => if x.1 < 0 ∨ (x.2.length : Int) < x.1 then none else some (x.2.take x.1.toNat, x.2.drop x.1.toNat)
def decB (l : List UInt8) : Option (Bool × List UInt8) := (decI l).bind fun x => if x.1 = 0 then some (false, x.2) else if x.1 = 1 then some (true, x.2) else none
def decV (l : List UInt8) : Option (Vl × List UInt8) := (decI l).bind fun k => (decI k.2).bind fun n => (decS n.2).bind fun t => if goodV ⟨k.1, n.1, t.1⟩ = true then some (⟨k.1, n.1, t.1⟩, t.2) else none
def decL {α : Type} (d : List UInt8 → Option (α × List UInt8)) : Nat → List UInt8 → Option (List α × List UInt8)
  | 0, l => some ([], l)
  | n + 1, l => (d l).bind fun x => (decL d n x.2).bind fun y => some (x.1 :: y.1, y.2)
def decM {α : Type} (bound : Int) (d : List UInt8 → Option (α × List UInt8)) (l : List UInt8) : Option (List α × List UInt8) :=
  (decI l).bind fun x => if x.1 < 0 ∨ bound < x.1 ∨ (x.2.length : Int) < x.1 then none else decL d x.1.toNat x.2

theorem decS_sound {l t r : List UInt8} (h : decS l = some (t, r)) : l = encS t ++ r := by
  unfold decS at h
  cases hi : decI l with
  | none => rw [hi] at h; cases h
  | some x =>
    obtain ⟨n, q⟩ := x
    rw [hi, Option.bind_some] at h
    obtain ⟨e, hI⟩ := decI_sound hi
    split at h
    · cases h
    · rename_i hb
      injection h with h
      injection h with h1 h2
      simp only at h1 h2 hb
      have hl : t.length = n.toNat := by rw [← h1, List.length_take]; omega
      unfold encS
      rw [e, List.append_assoc, ← h1, ← h2, List.take_append_drop]
      rw [h1, hl]
      rw [show ((n.toNat : Nat) : Int) = n by omega]
theorem decS_enc {t : List UInt8} (h : t.length ≤ 100000000) (r : List UInt8) : decS (encS t ++ r) = some (t, r) := by
  have hI : I64 (t.length : Int) := by unfold I64; omega
  unfold decS encS
  rw [List.append_assoc, decI_enc hI, Option.bind_some, if_neg (by simp; omega)]
  simp
theorem decB_sound {l r : List UInt8} {b : Bool} (h : decB l = some (b, r)) : l = encB b ++ r := by
  unfold decB at h
  cases hi : decI l with
  | none => rw [hi] at h; cases h
  | some x =>
    obtain ⟨n, q⟩ := x
    rw [hi, Option.bind_some] at h
    obtain ⟨e, hI⟩ := decI_sound hi
    simp only at h
    split at h
    · rename_i hb
      injection h with h; injection h with h1 h2
      rw [e, ← h1, ← h2, hb]; rfl
    · split at h
      · rename_i hb
        injection h with h; injection h with h1 h2
        rw [e, ← h1, ← h2, hb]; rfl
      · cases h
theorem decB_enc (b : Bool) (r : List UInt8) : decB (encB b ++ r) = some (b, r) := by
  unfold decB encB
  cases b
  · rw [decI_enc (by unfold I64; decide), Option.bind_some]; simp
  · rw [decI_enc (by unfold I64; decide), Option.bind_some]; simp
theorem decV_sound {l r : List UInt8} {v : Vl} (h : decV l = some (v, r)) : l = bytesV v ++ r ∧ goodV v = true ∧ I64 v.kind ∧ I64 v.num := by
  unfold decV at h
  cases h1 : decI l with
  | none => rw [h1] at h; cases h
  | some x =>
    obtain ⟨k, q1⟩ := x
    rw [h1, Option.bind_some] at h
    simp only at h
    cases h2 : decI q1 with
    | none => rw [h2] at h; cases h
    | some x =>
      obtain ⟨n, q2⟩ := x
      rw [h2, Option.bind_some] at h
      simp only at h
      cases h3 : decS q2 with
      | none => rw [h3] at h; cases h
      | some x =>
        obtain ⟨t, q3⟩ := x
        rw [h3, Option.bind_some] at h
        simp only at h
        split at h
        · rename_i hg
          injection h with h; injection h with e1 e2
          subst e1 e2
          obtain ⟨f1, i1⟩ := decI_sound h1
          obtain ⟨f2, i2⟩ := decI_sound h2
          have f3 := decS_sound h3
          refine ⟨?_, hg, i1, i2⟩
          unfold bytesV
          rw [f1, f2, f3]
          simp only [List.append_assoc]
        · cases h
theorem decV_enc {v : Vl} (hk : I64 v.kind) (hn : I64 v.num) (ht : v.text.length ≤ 100000000) (r : List UInt8) : decV (bytesV v ++ r) = if goodV v = true then some (v, r) else none := by
  unfold decV bytesV
  rw [List.append_assoc, List.append_assoc, decI_enc hk, Option.bind_some]
  simp only
  rw [decI_enc hn, Option.bind_some]
  simp only
  rw [decS_enc ht, Option.bind_some]
/-- Lists. -/
theorem decL_sound {α : Type} {d : List UInt8 → Option (α × List UInt8)} {f : α → List UInt8} {good : α → Prop} (hd : ∀ l x r, d l = some (x, r) → l = f x ++ r ∧ good x) :
    ∀ (n : Nat) (l : List UInt8) (xs : List α) (r : List UInt8), decL d n l = some (xs, r) → l = (xs.map f).flatten ++ r ∧ xs.length = n ∧ ∀ x ∈ xs, good x
  | 0, l, xs, r, h => by
    rw [decL] at h
    injection h with h; injection h with h1 h2
    subst h1 h2
    simp
  | n + 1, l, xs, r, h => by
    rw [decL] at h
    cases h1 : d l with
    | none => rw [h1] at h; cases h
    | some x =>
      obtain ⟨x, q⟩ := x
      rw [h1, Option.bind_some] at h
      simp only at h
      cases h2 : decL d n q with
      | none => rw [h2] at h; cases h
      | some y =>
        obtain ⟨ys, q2⟩ := y
        rw [h2, Option.bind_some] at h
        injection h with h; injection h with e1 e2
        subst e1 e2
        obtain ⟨f1, g1⟩ := hd l x q h1
        obtain ⟨f2, f3, g2⟩ := decL_sound hd n q ys q2 h2
        refine ⟨?_, by simp [f3], fun z hz => ?_⟩
        · rw [f1, f2]; simp
        · rcases List.mem_cons.1 hz with rfl | hz
          · exact g1
          · exact g2 z hz
theorem decM_sound {α : Type} {d : List UInt8 → Option (α × List UInt8)} {f : α → List UInt8} {good : α → Prop} {bound : Int} (hd : ∀ l x r, d l = some (x, r) → l = f x ++ r ∧ good x)
    {l : List UInt8} {xs : List α} {r : List UInt8} (h : decM bound d l = some (xs, r)) : l = enc xs.length ++ (xs.map f).flatten ++ r ∧ (xs.length : Int) ≤ bound ∧ ∀ x ∈ xs, good x := by
  unfold decM at h
  cases hi : decI l with
  | none => rw [hi] at h; cases h
  | some x =>
    obtain ⟨n, q⟩ := x
    rw [hi, Option.bind_some] at h
    simp only at h
    obtain ⟨e, hI⟩ := decI_sound hi
    split at h
    · cases h
    · rename_i hb
      obtain ⟨f1, f2, f3⟩ := decL_sound hd _ _ _ _ h
      refine ⟨?_, by omega, f3⟩
      rw [e, f2, List.append_assoc, ← f1, show ((n.toNat : Nat) : Int) = n by omega]
theorem decL_enc {α : Type} {d : List UInt8 → Option (α × List UInt8)} {f : α → List UInt8} {ok : α → Prop} {fit : α → Bool} (hd : ∀ x r, ok x → d (f x ++ r) = if fit x = true then some (x, r) else none) :
    ∀ (xs : List α) (r : List UInt8), (∀ x ∈ xs, ok x) → decL d xs.length ((xs.map f).flatten ++ r) = if xs.all fit = true then some (xs, r) else none
  | [], r, _ => by simp [decL]
  | x :: xs, r, h => by
    rw [List.length_cons, decL, List.map_cons, List.flatten_cons, List.append_assoc, hd x _ (h x (by simp))]
    cases hf : fit x with
    | false => simp [hf]
    | true =>
      rw [if_pos rfl, Option.bind_some]
      simp only
      rw [decL_enc hd xs r (fun z hz => h z (by simp [hz]))]
      cases ha : xs.all fit <;> simp [hf, ha]
theorem decM_enc {α : Type} {d : List UInt8 → Option (α × List UInt8)} {f : α → List UInt8} {ok : α → Prop} {fit : α → Bool} {bound : Int} (hd : ∀ x r, ok x → d (f x ++ r) = if fit x = true then some (x, r) else none)
    (hpos : ∀ x, 1 ≤ (f x).length) (xs : List α) (r : List UInt8) (h : ∀ x ∈ xs, ok x) (hl : xs.length ≤ 100000000) :
    decM bound d (enc xs.length ++ (xs.map f).flatten ++ r) = if (decide ((xs.length : Int) ≤ bound) && xs.all fit) = true then some (xs, r) else none := by
  have hI : I64 (xs.length : Int) := by unfold I64; omega
  have hlen : ∀ ys : List α, ys.length ≤ ((ys.map f).flatten).length := fun ys => by
    induction ys with
    | nil => simp
    | cons y ys ih => simp only [List.length_cons, List.map_cons, List.flatten_cons, List.length_append]; have := hpos y; omega
  unfold decM
  rw [List.append_assoc, decI_enc hI, Option.bind_some]
  simp only
  by_cases hb : (xs.length : Int) ≤ bound
  · rw [if_neg (by have := hlen xs; simp only [List.length_append]; omega), show ((xs.length : Nat) : Int).toNat = xs.length by omega, decL_enc hd xs r h]
    simp [hb]
  · rw [if_pos (by omega), if_neg (by simp [hb])]
end Go.Proofs.Ytlkeagfmlcbogaa
