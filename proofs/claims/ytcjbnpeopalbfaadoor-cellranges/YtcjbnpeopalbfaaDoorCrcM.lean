/- Plain mathematics of the checksum: it is linear, its step is one-to-one, and no three of the step's first images of 1 fall together. No program is named here. -/
import Derived.KernelRfl
namespace Go.Proofs.YtcjbnpeopalbfaaDoor

def crcP : Nat := 3988292384
/-- One bit's step. -/
def cst (c : Nat) : Nat := if c % 2 = 1 then c / 2 ^^^ crcP else c / 2
def csts : Nat → Nat → Nat
  | 0, c => c
  | n + 1, c => csts n (cst c)
/-- One byte's step. -/
def cby (c b : Nat) : Nat := csts 8 (c ^^^ b)
def crun : Nat → List Nat → Nat
  | c, [] => c
  | c, b :: r => crun (cby c b) r

theorem xor_half (a b : Nat) : (a ^^^ b) / 2 = a / 2 ^^^ b / 2 := by
  have := Nat.xor_div_two_pow (a := a) (b := b) (n := 1)
  simpa using this
theorem xor_par (a b : Nat) : (a ^^^ b) % 2 = (a % 2 + b % 2) % 2 := by
  have := Nat.xor_mod_two_pow (a := a) (b := b) (n := 1)
  simp only [Nat.pow_one] at this
  rw [this]
  rcases Nat.mod_two_eq_zero_or_one a with h | h <;> rcases Nat.mod_two_eq_zero_or_one b with h' | h' <;> rw [h, h'] <;> decide
theorem cst_xor (a b : Nat) : cst (a ^^^ b) = cst a ^^^ cst b := by
  unfold cst
  rw [xor_half, xor_par]
  generalize crcP = p
  rcases Nat.mod_two_eq_zero_or_one a with h | h <;> rcases Nat.mod_two_eq_zero_or_one b with h' | h' <;> rw [h, h']
  · simp
  · simp [Nat.xor_assoc]
  · rw [if_pos (show (1 + 0) % 2 = 1 by decide), if_pos (show 1 = 1 from rfl), if_neg (show ¬(0 = 1) by decide), Nat.xor_assoc, Nat.xor_assoc, Nat.xor_comm (b / 2)]
  · rw [if_neg (show ¬((1 + 1) % 2 = 1) by decide), if_pos (show 1 = 1 from rfl), if_pos (show 1 = 1 from rfl), Nat.xor_assoc, ← Nat.xor_assoc p, Nat.xor_comm p, Nat.xor_assoc, Nat.xor_self, Nat.xor_zero]
theorem csts_xor : ∀ (n a b : Nat), csts n (a ^^^ b) = csts n a ^^^ csts n b
  | 0, _, _ => rfl
  | n + 1, a, b => by rw [csts, cst_xor, csts_xor n]; rfl
theorem cst_lt {c : Nat} (h : c < 4294967296) : cst c < 4294967296 := by
  unfold cst
  split
  · exact Nat.xor_lt_two_pow (n := 32) (by omega) (by decide)
  · omega
theorem csts_lt : ∀ {n c : Nat}, c < 4294967296 → csts n c < 4294967296
  | 0, _, h => h
  | n + 1, c, h => csts_lt (n := n) (c := cst c) (cst_lt h)
theorem cst_zero {c : Nat} (h : c < 4294967296) (h0 : cst c = 0) : c = 0 := by
  unfold cst at h0
  split at h0
  · have : c / 2 = crcP := by
      have h1 : (c / 2 ^^^ crcP) ^^^ crcP = 0 ^^^ crcP := by rw [h0]
      rw [Nat.xor_assoc, Nat.xor_self, Nat.xor_zero, Nat.zero_xor] at h1
      exact h1
    unfold crcP at this
    omega
  · omega
theorem csts_zero : ∀ {n c : Nat}, c < 4294967296 → csts n c = 0 → c = 0
  | 0, _, _, h0 => h0
  | n + 1, c, h, h0 => cst_zero h (csts_zero (n := n) (c := cst c) (cst_lt h) h0)
theorem csts_add : ∀ (m n c : Nat), csts (m + n) c = csts n (csts m c)
  | 0, n, c => by rw [Nat.zero_add]; rfl
  | m + 1, n, c => by rw [Nat.succ_add]; exact csts_add m n (cst c)
theorem cst_nought : cst 0 = 0 := by decide
theorem csts_nought : ∀ n, csts n 0 = 0
  | 0 => rfl
  | n + 1 => by rw [csts, cst_nought]; exact csts_nought n
/-- A single bit comes down to 1. -/
theorem csts_bit : ∀ (k : Nat), csts k (2 ^ k) = 1
  | 0 => rfl
  | k + 1 => by
    rw [csts]
    have : cst (2 ^ (k + 1)) = 2 ^ k := by
      unfold cst
      rw [Nat.pow_succ, if_neg (by omega)]
      omega
    rw [this]
    exact csts_bit k

theorem xor_four (a b c d : Nat) : (a ^^^ b) ^^^ (c ^^^ d) = (a ^^^ c) ^^^ (b ^^^ d) := by
  rw [Nat.xor_assoc, Nat.xor_assoc, ← Nat.xor_assoc b, Nat.xor_comm b, Nat.xor_assoc]
/-- Linear, also over the bytes. -/
theorem crun_xor : ∀ (l : List (Nat × Nat)) (a b : Nat), crun (a ^^^ b) (l.map fun x => x.1 ^^^ x.2) = crun a (l.map (·.1)) ^^^ crun b (l.map (·.2))
  | [], _, _ => rfl
  | x :: r, a, b => by
    have e : cby (a ^^^ b) (x.1 ^^^ x.2) = cby a x.1 ^^^ cby b x.2 := by
      unfold cby
      rw [← csts_xor]
      congr 1
      exact xor_four a b x.1 x.2
    rw [List.map_cons, List.map_cons, List.map_cons]
    show crun (cby (a ^^^ b) (x.1 ^^^ x.2)) _ = crun (cby a x.1) _ ^^^ crun (cby b x.2) _
    rw [e]
    exact crun_xor r _ _
theorem crun_append : ∀ (l r : List Nat) (c : Nat), crun c (l ++ r) = crun (crun c l) r
  | [], _, _ => rfl
  | x :: l, r, c => by
    rw [List.cons_append]
    show crun (cby c x) (l ++ r) = crun (crun (cby c x) l) r
    generalize cby c x = d
    exact crun_append l r d
theorem crun_noughts : ∀ (n c : Nat), crun c (List.replicate n 0) = csts (8 * n) c
  | 0, _ => rfl
  | n + 1, c => by
    rw [List.replicate_succ, show 8 * (n + 1) = 8 + 8 * n by omega, csts_add]
    show crun (cby c 0) (List.replicate n 0) = _
    have : cby c 0 = csts 8 c := by unfold cby; rw [Nat.xor_zero]
    rw [this]
    exact crun_noughts n _

/-- A set of numbers of 32 bits, as a tree by their bits. -/
inductive Trie where
  | no
  | leaf
  | node (a b : Trie)
def Trie.has : Trie → Nat → Bool
  | .no, _ => false
  | .leaf, _ => true
  | .node a b, v => bif v % 2 == 0 then a.has (v / 2) else b.has (v / 2)
def Trie.put : Nat → Trie → Nat → Trie
  | 0, _, _ => .leaf
  | n + 1, .node a b, v => bif v % 2 == 0 then .node (Trie.put n a (v / 2)) b else .node a (Trie.put n b (v / 2))
  | n + 1, _, v => bif v % 2 == 0 then .node (Trie.put n .no (v / 2)) .no else .node .no (Trie.put n .no (v / 2))
/-- The walk over the powers: none is 1, none is another's neighbour by the lowest bit. -/
def powers : Nat → Nat → Trie → Bool
  | 0, _, _ => true
  | n + 1, c, t => bif c == 1 then false else bif t.has (c ^^^ 1) then false else powers n (cst c) (Trie.put 32 t c)
set_option maxRecDepth 100000 in
theorem powers_ok : powers 3240 (cst 1) .no = true := by kernel_rfl

def Trie.wf : Nat → Trie → Prop
  | 0, _ => True
  | _ + 1, .no => True
  | _ + 1, .leaf => False
  | n + 1, .node a b => a.wf n ∧ b.wf n
theorem Trie.wf_no : ∀ n, Trie.wf n .no
  | 0 => trivial
  | _ + 1 => trivial
theorem Trie.put_wf : ∀ (n : Nat) (t : Trie) (v : Nat), t.wf n → (Trie.put n t v).wf n
  | 0, _, _, _ => trivial
  | n + 1, .node a b, v, h => by
    unfold Trie.put
    cases v % 2 == 0 with
    | true => exact ⟨Trie.put_wf n a _ h.1, h.2⟩
    | false => exact ⟨h.1, Trie.put_wf n b _ h.2⟩
  | n + 1, .no, v, _ => by
    unfold Trie.put
    cases v % 2 == 0 with
    | true => exact ⟨Trie.put_wf n .no _ (Trie.wf_no n), Trie.wf_no n⟩
    | false => exact ⟨Trie.wf_no n, Trie.put_wf n .no _ (Trie.wf_no n)⟩
  | _ + 1, .leaf, _, h => h.elim
theorem Trie.put_has : ∀ (n : Nat) (t : Trie) (v : Nat), (Trie.put n t v).has v = true
  | 0, _, _ => rfl
  | n + 1, .node a b, v => by
    unfold Trie.put
    cases e : v % 2 == 0 with
    | true => simp only [cond_true, Trie.has, e]; exact Trie.put_has n a _
    | false => simp only [cond_false, Trie.has, e]; exact Trie.put_has n b _
  | n + 1, .no, v => by
    unfold Trie.put
    cases e : v % 2 == 0 with
    | true => simp only [cond_true, Trie.has, e]; exact Trie.put_has n .no _
    | false => simp only [cond_false, Trie.has, e]; exact Trie.put_has n .no _
  | n + 1, .leaf, v => by
    unfold Trie.put
    cases e : v % 2 == 0 with
    | true => simp only [cond_true, Trie.has, e]; exact Trie.put_has n .no _
    | false => simp only [cond_false, Trie.has, e]; exact Trie.put_has n .no _
theorem Trie.put_keeps : ∀ (n : Nat) (t : Trie) (v u : Nat), t.wf n → t.has u = true → (Trie.put n t v).has u = true
  | 0, _, _, _, _, _ => rfl
  | n + 1, .node a b, v, u, h, hu => by
    unfold Trie.put
    simp only [Trie.has] at hu
    cases e : v % 2 == 0 <;> cases e' : u % 2 == 0 <;> simp only [cond_true, cond_false, Trie.has, e'] at hu ⊢
    · exact Trie.put_keeps n b _ _ h.2 hu
    · exact hu
    · exact hu
    · exact Trie.put_keeps n a _ _ h.1 hu
  | _ + 1, .no, _, _, _, hu => by simp [Trie.has] at hu
  | _ + 1, .leaf, _, _, h, _ => h.elim

theorem powers_spec : ∀ (n c : Nat) (t : Trie), t.wf 32 → powers n c t = true →
    (∀ q, q < n → csts q c ≠ 1) ∧ (∀ q, q < n → t.has (csts q c ^^^ 1) = false) ∧ (∀ p q, p < q → q < n → csts p c ≠ csts q c ^^^ 1)
  | 0, _, _, _, _ => ⟨fun q h => by omega, fun q h => by omega, fun p q h h' => by omega⟩
  | n + 1, c, t, hw, h => by
    unfold powers at h
    cases e1 : c == 1 with
    | true => rw [e1] at h; simp at h
    | false =>
      rw [e1, cond_false] at h
      cases e2 : t.has (c ^^^ 1) with
      | true => rw [e2] at h; simp at h
      | false =>
        rw [e2, cond_false] at h
        obtain ⟨i1, i2, i3⟩ := powers_spec n (cst c) (Trie.put 32 t c) (Trie.put_wf 32 t c hw) h
        have hc1 : c ≠ 1 := by simpa using e1
        refine ⟨fun q hq => ?_, fun q hq => ?_, fun p q hp hq => ?_⟩
        · cases q with
          | zero => exact hc1
          | succ q => exact i1 q (by omega)
        · cases q with
          | zero => exact e2
          | succ q =>
            have := i2 q (by omega)
            cases e3 : t.has (csts (q + 1) c ^^^ 1) with
            | false => rfl
            | true =>
              have h4 := Trie.put_keeps 32 t c _ hw e3
              rw [show csts (q + 1) c = csts q (cst c) from rfl] at h4
              rw [h4] at this
              cases this
        · cases q with
          | zero => omega
          | succ q =>
            cases p with
            | zero =>
              intro hh
              have h5 := i2 q (by omega)
              have h6 := Trie.put_has 32 t c
              rw [show csts (q + 1) c = csts q (cst c) from rfl] at hh
              rw [← hh, show csts 0 c = c from rfl, h6] at h5
              cases h5
            | succ p => exact i3 p q (by omega) (by omega)

theorem csts_at {a b : Nat} (h : a ≤ b) : csts b 1 = csts a (csts (b - a) 1) := by
  rw [← csts_add, Nat.sub_add_cancel h]
theorem csts_one_lt (n : Nat) : csts n 1 < 4294967296 := csts_lt (by decide)
theorem turned_one (a : Nat) : csts a 1 ≠ 0 := fun h => by
  have := csts_zero (by decide) h
  cases this
theorem turned_two {a b : Nat} (h : a < b) (hb : b - a ≤ 3240) : csts a 1 ^^^ csts b 1 ≠ 0 := by
  intro h0
  rw [csts_at (Nat.le_of_lt h), ← csts_xor] at h0
  have h1 := csts_zero (Nat.xor_lt_two_pow (n := 32) (by decide) (csts_one_lt _)) h0
  have h2 : 1 = csts (b - a) 1 := by
    have : (1 ^^^ csts (b - a) 1) ^^^ csts (b - a) 1 = 0 ^^^ csts (b - a) 1 := by rw [h1]
    rwa [Nat.xor_assoc, Nat.xor_self, Nat.xor_zero, Nat.zero_xor] at this
  obtain ⟨k, hk⟩ : ∃ k, b - a = k + 1 := ⟨b - a - 1, by omega⟩
  rw [hk] at h2
  exact (powers_spec 3240 (cst 1) .no (Trie.wf_no 32) powers_ok).1 k (by omega) h2.symm
theorem turned_three {a b c : Nat} (h : a < b) (h' : b < c) (hb : c - a ≤ 3240) : csts a 1 ^^^ csts b 1 ^^^ csts c 1 ≠ 0 := by
  intro h0
  rw [csts_at (b := b) (Nat.le_of_lt h), csts_at (a := a) (b := c) (by omega), ← csts_xor, ← csts_xor] at h0
  have h1 := csts_zero (Nat.xor_lt_two_pow (n := 32) (Nat.xor_lt_two_pow (n := 32) (by decide) (csts_one_lt _)) (csts_one_lt _)) h0
  obtain ⟨k, hk⟩ : ∃ k, b - a = k + 1 := ⟨b - a - 1, by omega⟩
  obtain ⟨l, hl⟩ : ∃ l, c - a = l + 1 := ⟨c - a - 1, by omega⟩
  rw [hk, hl] at h1
  have h2 : csts k (cst 1) = csts l (cst 1) ^^^ 1 := by
    have e1 : (1 ^^^ csts (k + 1) 1 ^^^ csts (l + 1) 1) ^^^ (csts (l + 1) 1 ^^^ 1) = csts (l + 1) 1 ^^^ 1 := by rw [h1, Nat.zero_xor]
    rw [Nat.xor_assoc, ← Nat.xor_assoc (csts (l + 1) 1), Nat.xor_self, Nat.zero_xor, Nat.xor_comm 1, Nat.xor_assoc, Nat.xor_self, Nat.xor_zero] at e1
    exact e1
  exact (powers_spec 3240 (cst 1) .no (Trie.wf_no 32) powers_ok).2.2 k l (by omega) (by omega) h2
end Go.Proofs.YtcjbnpeopalbfaaDoor
