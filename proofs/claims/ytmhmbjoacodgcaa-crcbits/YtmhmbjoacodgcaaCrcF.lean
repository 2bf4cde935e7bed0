/- What turned bits do to a text with its tail: it doesn't check any more. -/
import Derived.Test.YtmhmbjoacodgcaaCrcC
namespace Go.Proofs.Ytmhmbjoacodgcaa

/-- One bit turned. -/
def flipAt (u : List UInt8) (q : Nat) : List UInt8 := u.set (q / 8) ((u.getD (q / 8) 0).toNat ^^^ 2 ^ (q % 8)).toUInt8
def flips : List Nat → List UInt8 → List UInt8
  | [], u => u
  | q :: r, u => flips r (flipAt u q)
theorem flipAt_length (u : List UInt8) (q : Nat) : (flipAt u q).length = u.length := by unfold flipAt; rw [List.length_set]
theorem flips_length : ∀ (ps : List Nat) (u : List UInt8), (flips ps u).length = u.length
  | [], _ => rfl
  | q :: r, u => by rw [flips, flips_length r, flipAt_length]
theorem flips_snoc : ∀ (ps : List Nat) (u : List UInt8) (q : Nat), flips (ps ++ [q]) u = flipAt (flips ps u) q
  | [], _, _ => rfl
  | p :: r, u, q => by rw [List.cons_append, flips, flips, flips_snoc r]

theorem pow8 {k : Nat} (h : k < 8) : 2 ^ k < 256 := by
  have : 2 ^ k < 2 ^ 8 := Nat.pow_lt_pow_right (by decide) h
  omega
theorem flip_byte (b : UInt8) {k : Nat} (h : k < 8) : b.toNat ^^^ 2 ^ k < 256 := Nat.xor_lt_two_pow (n := 8) b.toNat_lt (pow8 h)
theorem bitAt_length {n i k : Nat} (h : i < n) : (bitAt n i k).length = n := by
  unfold bitAt
  rw [List.length_append, List.length_cons, List.length_replicate, List.length_replicate]
  omega
theorem bitAt_get {n i k j : Nat} : (bitAt n i k).getD j 0 = if j = i then 2 ^ k else 0 := by
  unfold bitAt
  rw [List.getD_eq_getElem?_getD, List.getElem?_append]
  split
  · rename_i h
    rw [List.length_replicate] at h
    rw [List.getElem?_replicate, if_pos h, if_neg (by omega)]
    rfl
  · rename_i h
    rw [List.length_replicate] at h ⊢
    by_cases e : j = i
    · rw [if_pos e, e, Nat.sub_self]
      rfl
    · rw [if_neg e]
      obtain ⟨m, hm⟩ : ∃ m, j - i = m + 1 := ⟨j - i - 1, by omega⟩
      rw [hm, List.getElem?_cons_succ, List.getElem?_replicate]
      split <;> rfl
theorem flip_nats {u : List UInt8} {q : Nat} (h : q / 8 < u.length) :
    (flipAt u q).map UInt8.toNat = ((u.map UInt8.toNat).zip (bitAt u.length (q / 8) (q % 8))).map fun x => x.1 ^^^ x.2 := by
  have hb := bitAt_length (n := u.length) (i := q / 8) (k := q % 8) h
  apply List.ext_getElem
  · rw [List.length_map, flipAt_length, List.length_map, List.length_zip, List.length_map, hb, Nat.min_self]
  · intro j h1 h2
    have hj : j < u.length := by rw [List.length_map, flipAt_length] at h1; exact h1
    have hg := bitAt_get (n := u.length) (i := q / 8) (k := q % 8) (j := j)
    rw [List.getD_eq_getElem?_getD, List.getElem?_eq_getElem (by rw [hb]; exact hj), Option.getD_some] at hg
    simp only [List.getElem_map, List.getElem_zip, hg]
    unfold flipAt
    rw [List.getElem_set]
    by_cases e : q / 8 = j
    · have hge : u.getD (q / 8) 0 = u[j] := by
        rw [List.getD_eq_getElem?_getD, show u[q / 8]? = u[j]? from congrArg (fun i => u[i]?) e, List.getElem?_eq_getElem hj, Option.getD_some]
      rw [if_pos e, if_pos e.symm, Lib.toUInt8_toNat (flip_byte _ (by omega)), hge]
    · rw [if_neg e, if_neg (fun h => e h.symm), Nat.xor_zero]
theorem zip_fst : ∀ {a b : List Nat}, a.length = b.length → (a.zip b).map (·.1) = a
  | [], _, _ => by simp
  | _ :: _, [], h => by simp at h
  | x :: a, y :: b, h => by simp at h; simp [zip_fst h]
theorem zip_snd : ∀ {a b : List Nat}, a.length = b.length → (a.zip b).map (·.2) = b
  | [], b, h => by
    have : b = [] := List.eq_nil_of_length_eq_zero h.symm
    subst this
    rfl
  | _ :: _, [], h => by simp at h
  | x :: a, y :: b, h => by simp at h; simp [zip_snd h]
theorem flip_cv {u : List UInt8} {n q : Nat} (hu : u.length = n + 4) (hq : q < 8 * (n + 4)) (c : Nat) :
    csts 32 (cv c ((flipAt u q).map UInt8.toNat) n) = csts 32 (cv c (u.map UInt8.toNat) n) ^^^ csts (cx n q) 1 := by
  have hl : (u.map UInt8.toNat).length = (bitAt u.length (q / 8) (q % 8)).length := by rw [List.length_map, bitAt_length (by omega)]
  have e := cv_xor ((u.map UInt8.toNat).zip (bitAt u.length (q / 8) (q % 8))) n c 0
  rw [Nat.xor_zero, zip_fst hl, zip_snd hl, ← flip_nats (by omega)] at e
  rw [e, csts_xor, hu, cv_bit hq]
theorem flips_cv : ∀ (ps : List Nat) {u : List UInt8} {n : Nat}, u.length = n + 4 → (∀ q ∈ ps, q < 8 * (n + 4)) → ∀ c,
    csts 32 (cv c ((flips ps u).map UInt8.toNat) n) = csts 32 (cv c (u.map UInt8.toNat) n) ^^^ (ps.map fun q => csts (cx n q) 1).foldr (· ^^^ ·) 0
  | [], u, n, _, _, c => by simp [flips]
  | q :: r, u, n, hu, hq, c => by
    rw [flips, flips_cv r (by rw [flipAt_length]; exact hu) (fun p hp => hq p (by simp [hp])) c, flip_cv hu (hq q (by simp)) c, List.map_cons, List.foldr_cons, Nat.xor_assoc]

theorem crd_tails : ∀ (n a c : Nat), c < 256 ^ n → crd a ((tails n c).map UInt8.toNat) = a * 256 ^ n ^^^ c
  | 0, a, c, h => by
    have : c = 0 := by simpa using h
    subst this
    simp [tails, crd]
  | n + 1, a, c, h => by
    rw [tails, List.map_append, crd_append, crd_tails n a (c / 256) (by rw [Nat.pow_succ] at h; omega)]
    show (a * 256 ^ n ^^^ c / 256) * 256 ^^^ (c % 256).toUInt8.toNat = _
    rw [Lib.toUInt8_toNat (by omega), xor_mul, Nat.mul_assoc, ← Nat.pow_succ, Nat.xor_assoc]
    congr 1
    have h1 := Nat.two_pow_add_eq_or_of_lt (i := 8) (b := c % 256) (by omega) (c / 256)
    have h2 := Nat.xor_mod_two_pow (a := c / 256 * 256) (b := c % 256) (n := 8)
    have h3 := Nat.xor_div_two_pow (a := c / 256 * 256) (b := c % 256) (n := 8)
    have e1 : (c / 256 * 256 ^^^ c % 256) / 256 = c / 256 := by
      rw [show (2 : Nat) ^ 8 = 256 from rfl] at h3
      rw [h3, Nat.mul_div_cancel _ (by decide), show c % 256 / 256 = 0 by omega, Nat.xor_zero]
    have e2 : (c / 256 * 256 ^^^ c % 256) % 256 = c % 256 := by
      rw [show (2 : Nat) ^ 8 = 256 from rfl] at h2
      rw [h2, Nat.mul_mod_left, Nat.zero_xor, Nat.mod_mod]
    clear h1 h2 h3
    generalize c / 256 * 256 ^^^ c % 256 = z at *
    omega
theorem crd_tail {c : Nat} (h : c < 4294967296) : crd 0 ((tailOf c).map UInt8.toNat) = c := by
  unfold tailOf
  rw [crd_tails 4 0 c (by omega), Nat.zero_mul, Nat.zero_xor]
theorem sub_xor {v : Nat} (h : v < 4294967296) : v ^^^ (4294967295 - v) = 4294967295 := by
  have e2 : (4294967295 : Nat) ^^^ v = 4294967295 - v := by
    have h1 := u32_not v h
    have h2 := u32_xor_nat 4294967295 v (by decide) h
    exact Int.ofNat.inj (h2.symm.trans h1)
  rw [← e2, Nat.xor_comm, Nat.xor_assoc, Nat.xor_self, Nat.xor_zero]
/-- What checks. -/
theorem check_cv {u b : List UInt8} {n : Nat} (hu : u.length = n + 4) (h : checkOf u = some b) : cv 4294967295 (u.map UInt8.toNat) n = 4294967295 := by
  unfold checkOf at h
  split at h
  · rename_i hc
    have e := hc.2
    rw [show u.length - 4 = n by omega] at e
    unfold cv
    rw [← List.map_take, ← List.map_drop, e, crd_tail (crcOf_lt _)]
    unfold crcOf
    exact sub_xor (crun_lt _ (by decide))
  · cases h
/-- One to three bits turned: it doesn't check. -/
theorem bits_fail {s : List UInt8} (hs : s.length ≤ 400) (ps : List Nat) (h1 : 1 ≤ ps.length) (h3 : ps.length ≤ 3) (hq : ∀ q ∈ ps, q < 8 * (s.length + 4)) (hd : ps.Nodup) :
    checkOf (flips ps (s ++ tailOf (crcOf s))) = none := by
  have hu : (s ++ tailOf (crcOf s)).length = s.length + 4 := by rw [List.length_append]; exact congrArg _ (tails_length 4 _)
  cases hc : checkOf (flips ps (s ++ tailOf (crcOf s))) with
  | none => rfl
  | some b =>
    have e1 := check_cv (by rw [flips_length]; exact hu) hc
    have hcs : checkOf (s ++ tailOf (crcOf s)) = some s := by
      have h4 : (tailOf (crcOf s)).length = 4 := tails_length 4 _
      unfold checkOf
      have e : (s ++ tailOf (crcOf s)).length - 4 = s.length := by rw [List.length_append, h4]; omega
      rw [e, List.take_left, List.drop_left, if_pos ⟨by rw [List.length_append, h4]; omega, rfl⟩]
    have e2 := check_cv hu hcs
    have e3 := flips_cv ps hu hq 4294967295
    rw [e1, e2] at e3
    have e4 : (ps.map fun q => csts (cx s.length q) 1).foldr (· ^^^ ·) 0 = 0 := by
      generalize (ps.map fun q => csts (cx s.length q) 1).foldr (· ^^^ ·) 0 = z at *
      generalize csts 32 4294967295 = y at *
      have : y ^^^ y = y ^^^ (y ^^^ z) := by rw [← e3]
      rw [Nat.xor_self, ← Nat.xor_assoc, Nat.xor_self, Nat.zero_xor] at this
      exact this.symm
    exact absurd e4 (bits_show hs ps h1 h3 hq hd)
end Go.Proofs.Ytmhmbjoacodgcaa
