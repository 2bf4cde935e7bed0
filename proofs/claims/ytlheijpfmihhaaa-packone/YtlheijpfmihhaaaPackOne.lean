/- The walk of the law PackOne. -/
import Derived.Test.YtlheijpfmihhaaaPackBack
import Derived.Test.YtlheijpfmihhaaaMemApp
import Derived.Deep.QuietTactic
import Derived.BigQuiet
namespace Go.Proofs.Ytlheijpfmihhaaa
open Go.RowKit

theorem encs_inj : ∀ (a b : List Int), (∀ m ∈ a, I64 m) → (∀ m ∈ b, I64 m) → encs a = encs b → a = b
  | [], [], _, _, _ => rfl
  | [], n :: r, _, _, h => by
    have := congrArg List.length h
    have hp := enc_pos n
    rw [encs_cons] at this
    simp [encs] at this
    omega
  | n :: r, [], _, _, h => by
    have := congrArg List.length h
    have hp := enc_pos n
    rw [encs_cons, List.length_append] at this
    have h0 : (encs []).length = 0 := rfl
    omega
  | m :: a, n :: b, ha, hb, h => by
    rw [encs_cons, encs_cons] at h
    have h1 := grp_enc m (ha m (by simp)) (encs a)
    have h2 := grp_enc n (hb n (by simp)) (encs b)
    rw [h, h2] at h1
    injection h1 with h1
    injection h1 with h3 h4
    have h5 : m = n := by rw [← unzig_zigzag m, ← unzig_zigzag n, h3]
    subst h5
    rw [encs_inj a b (fun x hx => ha x (by simp [hx])) (fun x hx => hb x (by simp [hx])) (List.append_cancel_left h)]

theorem encSs_cons (s : List UInt8) (r : List (List UInt8)) : encSs (s :: r) = enc s.length ++ (s ++ encSs r) := by simp [encSs, encS]
theorem encSs_inj : ∀ (a b : List (List UInt8)), (∀ s ∈ a, s.length ≤ 4096) → (∀ s ∈ b, s.length ≤ 4096) → encSs a = encSs b → a = b
  | [], [], _, _, _ => rfl
  | [], n :: r, _, _, h => by
    have := congrArg List.length h
    have hp := enc_pos n.length
    rw [encSs_cons] at this
    simp [encSs] at this
    omega
  | n :: r, [], _, _, h => by
    have := congrArg List.length h
    have hp := enc_pos n.length
    rw [encSs_cons, List.length_append] at this
    have h0 : (encSs []).length = 0 := rfl
    omega
  | s :: a, t :: b, ha, hb, h => by
    rw [encSs_cons, encSs_cons] at h
    have hs := ha s (by simp)
    have ht := hb t (by simp)
    have h1 := grp_enc s.length (by unfold I64; omega) (s ++ encSs a)
    have h2 := grp_enc t.length (by unfold I64; omega) (t ++ encSs b)
    rw [h, h2] at h1
    injection h1 with h1
    injection h1 with h3 h4
    have h5 : (s.length : Int) = t.length := by rw [← unzig_zigzag s.length, ← unzig_zigzag t.length, h3]
    have h6 : s.length = t.length := by omega
    rw [h6] at h
    obtain ⟨h7, h8⟩ := List.append_inj (List.append_cancel_left h) h6
    subst h7
    rw [encSs_inj a b (fun x hx => ha x (by simp [hx])) (fun x hx => hb x (by simp [hx])) h8]

/-- The loop 'for i := 0; same && i < len(a); i++ { same = a[i] == b[i] }' at its head. -/
def SameInv {α : Type} (d : α) (a b : List α) (k : Nat) (sm : Bool) : Prop :=
  (sm = true → a.length = b.length ∧ ∀ j, j < k → a.getD j d = b.getD j d) ∧ (sm = false → a ≠ b)

theorem SameInv.start {α : Type} (d : α) (a b : List α) {n m : Nat} (hn : a.length = n) (hm : b.length = m) : SameInv d a b 0 ((n : Int) == (m : Int)) := by
  refine ⟨fun h => ⟨?_, fun j hj => absurd hj (by omega)⟩, fun h e => ?_⟩
  · have : (n : Int) = m := by simpa using h
    omega
  · subst e
    have : n = m := by omega
    subst this
    simp at h
theorem SameInv.step {α : Type} {d : α} {a b : List α} {k : Nat} (h : SameInv d a b k true) (hk : k < a.length) {y : Bool} (hy : y = true ↔ a.getD k d = b.getD k d) : SameInv d a b (k + 1) y := by
  obtain ⟨h1, h2⟩ := h.1 rfl
  refine ⟨fun e => ⟨h1, fun j hj => ?_⟩, fun e e2 => ?_⟩
  · by_cases hjk : j = k
    · subst hjk; exact hy.1 e
    · exact h2 j (by omega)
  · subst e2
    have := hy.2 rfl
    rw [this] at e
    cases e
theorem SameInv.last {α : Type} {d : α} {a b : List α} {k : Nat} {x : Bool} (h : SameInv d a b k x) (hk : ¬ (x = true ∧ k < a.length)) : x = true ↔ a = b := by
  cases x with
  | false => simpa using h.2 rfl
  | true =>
    obtain ⟨h1, h2⟩ := h.1 rfl
    have hk' : a.length ≤ k := by
      rcases Nat.lt_or_ge k a.length with h3 | h3
      · exact absurd ⟨rfl, h3⟩ hk
      · exact h3
    refine ⟨fun _ => ?_, fun _ => rfl⟩
    apply List.ext_getElem h1
    intro j hj1 hj2
    have := h2 j (by omega)
    simpa [hj1, hj2] using this

theorem below_draws {B : Nat} {x y : World} (h : Below B x y) (n : Nat) : Below B x (y.drewN n) := ⟨h.os, h.tape, h.output, h.size, h.block⟩
theorem str_cells (s : List (List UInt8)) : ∀ u ∈ (s.map fun x => Value.string ⟨x.toArray⟩), u.oneCell' = true := by
  intro u hu
  simp only [List.mem_map] at hu
  obtain ⟨x, _, rfl⟩ := hu
  rfl
def IffLit (x : Bool) (P : Prop) : Prop := x = true ↔ P
theorem beq_lit {x : Bool} {u v : List UInt8} {P : Prop} (h : IffLit x P) (h2 : u = v ↔ P) : (u == v) = x := by
  rw [Bool.eq_iff_iff, beq_iff_eq, h2]
  exact h.symm
theorem info_str : (Try.prog.info? 9).map (fun i => (i.zero, i.size, i.bytes)) = some (some (.string ⟨#[]⟩), 1, 16) := by kernel_rfl

set_option maxHeartbeats 1000000 in
theorem packOne_walk (A0 : Option Addr) (n0 c0 : Nat) (a : List Int) (A1 : Option Addr) (n1 c1 : Nat) (b : List Int) (A2 : Option Addr) (n2 c2 : Nat) (s : List (List UInt8)) (A3 : Option Addr) (n3 c3 : Nat) (t : List (List UInt8)) (w : World)
    (hr0 : Nums w A0 n0 a) (hI0 : ∀ m ∈ a, I64 m) (hr1 : Nums w A1 n1 b) (hI1 : ∀ m ∈ b, I64 m) (hr2 : Strs w A2 n2 s) (hs2 : ∀ x ∈ s, x.length ≤ maxLen) (hr3 : Strs w A3 n3 t) (hs3 : ∀ x ∈ t, x.length ≤ maxLen)
    (h0 : n0 ≤ 60) (h1 : n1 ≤ 60) (h2 : n2 ≤ 60) (h3 : n3 ≤ 60) :
    Calls Try.prog 6 #[.slice A0 n0 c0, .slice A1 n1 c1, .slice A2 n2 c2, .slice A3 n3 c3] w fun e w' => e = .returned (.bool true) ∧ Below w.heap.size w w' := by
  obtain ⟨i0, hi0, hz0, hz1, hz2⟩ := info_parts info_str
  have g0 : decide ((60 : Int) < n0) = false := by simp; omega
  have g1 : decide ((60 : Int) < n1) = false := by simp; omega
  have g2 : decide ((60 : Int) < n2) = false := by simp; omega
  have g3 : decide ((60 : Int) < n3) = false := by simp; omega
  have HI0 := Lib.hid hI0
  have HI1 := Lib.hid hI1
  have HS2 := Lib.hid hs2
  have HS3 := Lib.hid hs3
  have hL0 : (encs a).length ≤ 10 * n0 := by have := encs_len a HI0.out; rw [hr0.1] at this; exact this
  have hL1 : (encs b).length ≤ 10 * n1 := by have := encs_len b HI1.out; rw [hr1.1] at this; exact this
  clear hI0 hI1 hs2 hs3
  go_enter Try.func6, Try.ntmps6
  go_wp2_with fail
  refine (alive_any _).mono ?_
  rintro e w1 ⟨rfl, hbel⟩
  have hbw : w.heap.size ≤ w1.heap.size := hbel.size
  go_wp2_with fail
  have e0 : At ((((w1.alloc (.cells #[.slice none 0 0] 29)).alloc (.cells #[.slice none 0 0] 29)).alloc (.cells #[.slice none 0 0] 29)).alloc (.cells #[.slice none 0 0] 29)) w1.heap.size 29 #[.slice none 0 0] := (((At.fresh _ _ _).alloc _).alloc _).alloc _
  have e1 : At ((((w1.alloc (.cells #[.slice none 0 0] 29)).alloc (.cells #[.slice none 0 0] 29)).alloc (.cells #[.slice none 0 0] 29)).alloc (.cells #[.slice none 0 0] 29)) (w1.heap.size + 1) 29 #[.slice none 0 0] := by
    have := (((At.fresh (w1.alloc (.cells #[.slice none 0 0] 29)) 29 #[.slice none 0 0]).alloc (.cells #[.slice none 0 0] 29))).alloc (.cells #[.slice none 0 0] 29)
    simpa using this
  have e2 : At ((((w1.alloc (.cells #[.slice none 0 0] 29)).alloc (.cells #[.slice none 0 0] 29)).alloc (.cells #[.slice none 0 0] 29)).alloc (.cells #[.slice none 0 0] 29)) (w1.heap.size + 1 + 1) 29 #[.slice none 0 0] := by
    have := (At.fresh ((w1.alloc (.cells #[.slice none 0 0] 29)).alloc (.cells #[.slice none 0 0] 29)) 29 #[.slice none 0 0]).alloc (.cells #[.slice none 0 0] 29)
    simpa using this
  have e3 : At ((((w1.alloc (.cells #[.slice none 0 0] 29)).alloc (.cells #[.slice none 0 0] 29)).alloc (.cells #[.slice none 0 0] 29)).alloc (.cells #[.slice none 0 0] 29)) (w1.heap.size + 1 + 1 + 1) 29 #[.slice none 0 0] := by
    have := At.fresh (((w1.alloc (.cells #[.slice none 0 0] 29)).alloc (.cells #[.slice none 0 0] 29)).alloc (.cells #[.slice none 0 0] 29)) 29 #[.slice none 0 0]
    simpa using this
  have hbl0 := (((hbel.alloc hbw (.cells #[.slice none 0 0] 29)).alloc (by simp; omega) (.cells #[.slice none 0 0] 29)).alloc (by simp; omega) (.cells #[.slice none 0 0] 29)).alloc (by simp; omega) (.cells #[.slice none 0 0] 29)
  generalize (((w1.alloc (.cells #[.slice none 0 0] 29)).alloc (.cells #[.slice none 0 0] 29)).alloc (.cells #[.slice none 0 0] 29)).alloc (.cells #[.slice none 0 0] 29) = W0 at *
  have q3 : w1.heap.size < w1.heap.size + 1 ∧ w1.heap.size + 1 < w1.heap.size + 1 + 1 ∧ w1.heap.size + 1 + 1 < w1.heap.size + 1 + 1 + 1 := by omega
  generalize w1.heap.size + 1 + 1 + 1 = p3 at *
  generalize w1.heap.size + 1 + 1 = p2 at *
  generalize w1.heap.size + 1 = p1 at *
  generalize w1.heap.size = p0 at *
  obtain ⟨q1, q2, q3⟩ := q3
  clear hbel
  refine (wint_any p0 w.heap.size (.slice none 0 0) [] A0 n0 c0 a _ e0 (Owns.nil _ _ _) hbl0.size (hr0.below hbl0) (hr0.apart hbw (by simp [Value.ownBlock])) HI0.out (by simp; omega)).mono ?_
  rintro e W2 ⟨rfl, v0, f0, ho0, hg⟩
  have f1 := hg.at_ e1 (by omega) (by simp [Value.ownBlock])
  have f2 := hg.at_ e2 (by omega) (by simp [Value.ownBlock])
  have f3 := hg.at_ e3 (by omega) (by simp [Value.ownBlock])
  have hbl2 : Below w.heap.size w W2 := hbl0.trans (hg.below hbl0.size hbw (by simp [Value.ownBlock]))
  clear hg e0 e1 e2 e3 hbl0 W0
  go_wp2_with fail
  refine (wint_any p1 w.heap.size (.slice none 0 0) [] A1 n1 c1 b _ f1 (Owns.nil _ _ _) hbl2.size (hr1.below hbl2) (hr1.apart (by omega) (by simp [Value.ownBlock])) HI1.out (by simp; omega)).mono ?_
  rintro e W3 ⟨rfl, v1, e1, ho1, hg⟩
  have e0 := hg.at_ f0 (by omega) (by simp [Value.ownBlock])
  have e2 := hg.at_ f2 (by omega) (by simp [Value.ownBlock])
  have e3 := hg.at_ f3 (by omega) (by simp [Value.ownBlock])
  have hp0 := hg.owns_nil ho0 (owns_apart ho0 f1 (by decide))
  have hbl3 : Below w.heap.size w W3 := hbl2.trans (hg.below hbl2.size (by omega) (by simp [Value.ownBlock]))
  rw [List.nil_append] at ho1 hp0
  clear hg f0 f1 f2 f3 hbl2 ho0 W2
  go_wp2_with fail
  go_loopw [13, 14] (fun sm i wr => ∃ (k : Nat) (x : Bool), k ≤ n0 ∧ i = .int .i64 k ∧ sm = .bool x ∧ SameInv 0 a b k x ∧ ∃ nd, wr = W3.drewN nd) (fun _ i _ => n0 - (intOf i).toNat)
  case atStart => exact ⟨0, _, by omega, rfl, rfl, SameInv.start 0 a b hr0.1 hr1.1, 0, rfl⟩
  case round =>
    obtain ⟨k, x, hk, rfl, rfl, hinv, nd, rfl⟩ := hrel
    by_cases hc : x = true ∧ k < n0
    · obtain ⟨rfl, hlt⟩ := hc
      have hle : n0 = n1 := by rw [← hr0.1, ← hr1.1]; exact (hinv.1 rfl).1
      subst hle
      have hkl : k < a.length := by rw [hr0.1]; exact hlt
      obtain ⟨d0, o0, rfl, hd0, hx0⟩ := nums_at hr0 hbl3 hlt
      obtain ⟨d1, o1, rfl, hd1, hx1⟩ := nums_at hr1 hbl3 hlt
      have hstep := fun (y : Bool) => hinv.step hkl (y := y)
      obtain ⟨y0, hy0⟩ : ∃ y, a.getD k 0 = y := ⟨_, rfl⟩
      obtain ⟨y1, hy1⟩ : ∃ y, b.getD k 0 = y := ⟨_, rfl⟩
      rw [hy0] at hx0
      rw [hy1] at hx1
      rw [hy0, hy1] at hstep
      have HST := Lib.hid hstep
      clear hy0 hy1 hinv hstep
      go_wp2_with fail
      go_quiet (fail)
      go_wp2_with fail
      exact ⟨⟨k + 1, _, by omega, by go_num, rfl, HST.out _ (by simp), _, rfl⟩, by simp [intOf]; omega⟩
    · have hE : (encs a == encs b) = x := by
        have h4 := hinv.last (by rw [hr0.1]; exact hc)
        rw [Bool.eq_iff_iff, h4, beq_iff_eq]
        exact ⟨fun h => encs_inj a b HI0.out HI1.out h, fun h => by rw [h]⟩
      clear hinv
      cases x
      all_goals
        try (have hlt : ¬ k < n0 := fun h => hc ⟨rfl, h⟩)
        clear hc
        go_wp2_with fail
        go_loopw [15, 16] (fun sm i wr => ∃ (k : Nat) (x : Bool), k ≤ n2 ∧ i = .int .i64 k ∧ sm = .bool x ∧ SameInv [] s t k x ∧ ∃ nd, wr = W3.drewN nd) (fun _ i _ => n2 - (intOf i).toNat)
        case atStart => exact ⟨0, _, by omega, rfl, rfl, SameInv.start [] s t hr2.1 hr3.1, _, rfl⟩
        case round =>
          obtain ⟨k, x, hk, rfl, rfl, hinv, nd, rfl⟩ := hrel
          by_cases hc : x = true ∧ k < n2
          · obtain ⟨rfl, hlt⟩ := hc
            have hle : n2 = n3 := by rw [← hr2.1, ← hr3.1]; exact (hinv.1 rfl).1
            subst hle
            have hkl : k < s.length := by rw [hr2.1]; exact hlt
            obtain ⟨d0, o0, rfl, hd0, hx0⟩ := strs_at hr2 hbl3 hlt
            obtain ⟨d1, o1, rfl, hd1, hx1⟩ := strs_at hr3 hbl3 hlt
            have hstep := fun (y : Bool) => hinv.step hkl (y := y)
            obtain ⟨y0, hy0⟩ : ∃ y, s.getD k [] = y := ⟨_, rfl⟩
            obtain ⟨y1, hy1⟩ : ∃ y, t.getD k [] = y := ⟨_, rfl⟩
            rw [hy0] at hx0
            rw [hy1] at hx1
            rw [hy0, hy1] at hstep
            have HST := Lib.hid hstep
            clear hy0 hy1 hinv hstep
            go_wp2_with fail
            go_quiet (fail)
            go_wp2_with fail
            exact ⟨⟨k + 1, _, by omega, by go_num, rfl, HST.out _ (by simp), _, rfl⟩, by simp [intOf]; omega⟩
          · have HF : IffLit x (s = t) := hinv.last (by rw [hr2.1]; exact hc)
            clear hinv
            cases x
            all_goals
              try (have hlt : ¬ k < n2 := fun h => hc ⟨rfl, h⟩)
              clear hc
              have c1 : ((W3.drewN nd).alloc (.cells #[] 9)).ownsRow W3.heap.size 9 1 (.slice (some ⟨W3.heap.size, 0, none⟩) 0 0) 0 [] := World.ownsRow_made (W3.drewN nd) #[] 0 (Nat.le_refl _) (by unfold maxLen; omega) rfl
              have c2 : Row ((W3.drewN nd).alloc (.cells #[] 9)) A2 n2 (s.map fun x => .string ⟨x.toArray⟩) := hr2.row.below ((below_draws hbl3 nd).alloc hbl3.size _)
              have c3 : W3.heap.size ≤ ((W3.drewN nd).alloc (.cells #[] 9)).heap.size := by simp
              have C1 := Lib.hid c1
              have C2 := Lib.hid c2
              have C3 := Lib.hid c3
              clear c1 c2 c3
              go_wp2_with (at_builtin; refine wpList_append_row rfl (.tmp 99) (.tmp 100) 23 rfl W3.heap.size 9 i0 (.string ⟨#[]⟩) 16 Try.underlying23 hi0 hz0 hz1 hz2 rfl (.slice (some ⟨W3.heap.size, 0, none⟩) 0 0) 0 [] rfl C1.out A2 n2 c2 (s.map fun x => .string ⟨x.toArray⟩) rfl C2.out (str_cells s) (by unfold maxLen; omega) (by omega) C3.out ?_)
              clear C1 C2 C3
              intro v4 w4 hown4 hg4
              have hblA : Below W3.heap.size W3 ((W3.drewN nd).alloc (.cells #[] 9)) := (below_draws (Below.refl _ _) nd).alloc (Nat.le_refl _) _
              have hbl4 : Below W3.heap.size W3 w4 := hblA.grown hg4.grown hblA.size (fun g hg => by simp [Value.ownBlock] at hg; omega)
              have hown4' : w4.ownsRow W3.heap.size 9 1 v4 n2 (s.map fun x => .string ⟨x.toArray⟩) := by simpa using hown4
              have C1 := Lib.hid hown4'
              have C2 := Lib.hid (hr3.row.below (hbl3.trans (hbl4.mono hbl3.size)))
              have C3 := Lib.hid hbl4.size
              clear hown4 hown4' hg4
              go_wp2_with (at_builtin; refine wpList_append_row rfl (.tmp 101) (.tmp 102) 23 rfl W3.heap.size 9 i0 (.string ⟨#[]⟩) 16 Try.underlying23 hi0 hz0 hz1 hz2 rfl v4 n2 (s.map fun x => .string ⟨x.toArray⟩) rfl C1.out A3 n3 c3 (t.map fun x => .string ⟨x.toArray⟩) rfl C2.out (str_cells t) (by unfold maxLen; omega) (by omega) C3.out ?_)
              intro v5 w5 hown5 hg5
              have hbl5 : Below W3.heap.size W3 w5 := hbl4.grown hg5.grown hbl4.size (fun g hg => (C1.out.lt g hg).1)
              clear C1 C2 C3 hg5 hbl4 hblA
              obtain ⟨A5, c5, rfl, hrow5⟩ := Row.of_own hown5
              clear hown5
              have e0' := e0.below hbl5 e0.lt
              have e1' := e1.below hbl5 e1.lt
              have e2' := e2.below hbl5 e2.lt
              have e3' := e3.below hbl5 e3.lt
              have ho0' := hp0.below hbl5 (fun g hg => (hp0.lt g hg).2)
              have ho1' := ho1.below hbl5 (fun g hg => (ho1.lt g hg).2)
              have hbl6 := hbl3.trans (hbl5.mono hbl3.size)
              clear e0 e1 e2 e3 hp0 ho1 hbl5 hbl3
              go_wp2_with fail
              go_loop [105] (fun i => ∃ k : Nat, k ≤ n2 + n3 ∧ i = .int .i64 k ∧ Hid (∀ j, j < k → ((s ++ t).getD j []).length ≤ 4096)) (fun i => n2 + n3 - (intOf i).toNat)
              case atStart => exact ⟨0, by omega, rfl, fun j hj => absurd hj (by omega)⟩
              case round =>
                obtain ⟨k, hk, rfl, hall⟩ := hrel
                by_cases hlt : k < n2 + n3
                · obtain ⟨b5, o5, rfl, hb5, hc5⟩ := hrow5.2 (by omega)
                  have hx := hc5 k hlt
                  have hkl : k < (s ++ t).length := by rw [List.length_append, hr2.1, hr3.1]; exact hlt
                  have hx2 : ((s.map fun x => Value.string ⟨x.toArray⟩) ++ t.map fun x => Value.string ⟨x.toArray⟩)[k]? = some (.string ⟨((s ++ t).getD k []).toArray⟩) := by
                    rw [← List.map_append, List.getElem?_map, List.getElem?_eq_getElem hkl]
                    simp [List.getElem?_eq_getElem hkl]
                  rw [hx2] at hx
                  have hml : ((s ++ t).getD k []).length ≤ maxLen := by
                    have := getD_mem (s ++ t) [] k hkl
                    rcases List.mem_append.1 this with h | h
                    · exact HS2.out _ h
                    · exact HS3.out _ h
                  obtain ⟨x, hxe⟩ : ∃ x, (s ++ t).getD k [] = x := ⟨_, rfl⟩
                  rw [hxe] at hx hml
                  have HX := Lib.hid hxe
                  clear hxe hx2 hc5
                  unfold maxLen at hml
                  by_cases hx4 : x.length ≤ 4096
                  · have hx4' : decide ((4096 : Int) < x.length) = false := by simp; omega
                    go_wp2_with fail
                    refine ⟨⟨k + 1, by omega, by go_num, fun j hj => ?_⟩, by simp [intOf]; omega⟩
                    by_cases hjk : j = k
                    · subst hjk; rw [HX.out]; exact hx4
                    · exact hall.out j (by omega)
                  · have hx4' : decide ((4096 : Int) < x.length) = true := by simp; omega
                    go_wp2_with fail
                    go_ret
                    exact ⟨rfl, hbl6⟩
                · have hall4 : ∀ x ∈ s ++ t, x.length ≤ 4096 := by
                    intro x hx
                    obtain ⟨j, hj, rfl⟩ := List.getElem_of_mem hx
                    have := hall.out j (by have := hr2.1; have := hr3.1; simp at hj; omega)
                    simpa [List.getElem?_eq_getElem hj] using this
                  have hs4 : ∀ x ∈ s, x.length ≤ 4096 := fun x hx => hall4 x (by simp [hx])
                  have ht4 : ∀ x ∈ t, x.length ≤ 4096 := fun x hx => hall4 x (by simp [hx])
                  have hL2 : (encSs s).length ≤ 4106 * n2 := by have := flat_len encS 4106 s (fun x hx => encS_len (hs4 x hx)); rw [hr2.1] at this; exact this
                  have hL3 : (encSs t).length ≤ 4106 * n3 := by have := flat_len encS 4106 t (fun x hx => encS_len (ht4 x hx)); rw [hr3.1] at this; exact this
                  have HINJ := Lib.hid (show encSs s = encSs t ↔ s = t from ⟨fun h => encSs_inj s t hs4 ht4 h, fun h => by rw [h]⟩)
                  clear hall4 hs4 ht4 hall
                  go_wp2_with fail
                  refine (wstr_any p2 w.heap.size (.slice none 0 0) [] A2 n2 c2 s _ e2' (Owns.nil _ _ _) hbl6.size (hr2.below hbl6) (hr2.apart (by omega) (by simp [Value.ownBlock])) (by simp; omega) (by omega)).mono ?_
                  rintro e w7 ⟨rfl, v2, f2, ho2, hg⟩
                  have f0 := hg.at_ e0' (by omega) (by simp [Value.ownBlock])
                  have f1 := hg.at_ e1' (by omega) (by simp [Value.ownBlock])
                  have f3 := hg.at_ e3' (by omega) (by simp [Value.ownBlock])
                  have hq0 := hg.owns_nil ho0' (owns_apart ho0' e2' (by decide))
                  have hq1 := hg.owns_nil ho1' (owns_apart ho1' e2' (by decide))
                  have hbl7 : Below w.heap.size w w7 := hbl6.trans (hg.below hbl6.size (by omega) (by simp [Value.ownBlock]))
                  rw [List.nil_append] at ho2
                  clear hg e0' e1' e2' e3' ho0' ho1' hbl6 hrow5
                  go_wp2_with fail
                  refine (wstr_any p3 w.heap.size (.slice none 0 0) [] A3 n3 c3 t _ f3 (Owns.nil _ _ _) hbl7.size (hr3.below hbl7) (hr3.apart (by omega) (by simp [Value.ownBlock])) (by simp; omega) (by omega)).mono ?_
                  rintro e w8 ⟨rfl, v3, e3', ho3, hg⟩
                  have e0' := hg.at_ f0 (by omega) (by simp [Value.ownBlock])
                  have e1' := hg.at_ f1 (by omega) (by simp [Value.ownBlock])
                  have e2' := hg.at_ f2 (by omega) (by simp [Value.ownBlock])
                  have ho0' := hg.owns_nil hq0 (owns_apart hq0 f3 (by decide))
                  have ho1' := hg.owns_nil hq1 (owns_apart hq1 f3 (by decide))
                  have ho2' := hg.owns_nil ho2 (owns_apart ho2 f3 (by decide))
                  have hbl8 : Below w.heap.size w w8 := hbl7.trans (hg.below hbl7.size (by omega) (by simp [Value.ownBlock]))
                  rw [List.nil_append] at ho3
                  clear hg f0 f1 f2 f3 hq0 hq1 ho2 hbl7
                  go_wp2_with fail
                  refine (wbytes_any p0 w.heap.size v0 _ _ e0' ho0').mono ?_
                  rintro e w9 ⟨rfl, rfl⟩
                  go_wp2_with fail
                  refine (wbytes_any p1 w.heap.size v1 _ _ e1' ho1').mono ?_
                  rintro e w9 ⟨rfl, rfl⟩
                  go_wp2_with fail
                  refine (wbytes_any p2 w.heap.size v2 _ _ e2' ho2').mono ?_
                  rintro e w9 ⟨rfl, rfl⟩
                  go_wp2_with fail
                  refine (wbytes_any p3 w.heap.size v3 _ _ e3' ho3).mono ?_
                  rintro e w9 ⟨rfl, rfl⟩
                  have hE2 := beq_lit HF HINJ.out
                  go_wp2_with fail
                  go_ret
                  exact ⟨rfl, hbl8⟩

set_option maxHeartbeats 400000 in
theorem packOne_main (A0 : Option Addr) (n0 c0 : Nat) (a : List Int) (A1 : Option Addr) (n1 c1 : Nat) (b : List Int) (A2 : Option Addr) (n2 c2 : Nat) (s : List (List UInt8)) (A3 : Option Addr) (n3 c3 : Nat) (t : List (List UInt8)) (w : World)
    (hr0 : Nums w A0 n0 a) (hI0 : ∀ m ∈ a, I64 m) (_ : n0 ≤ maxLen) (hr1 : Nums w A1 n1 b) (hI1 : ∀ m ∈ b, I64 m) (_ : n1 ≤ maxLen) (hr2 : Strs w A2 n2 s) (hs2 : ∀ x ∈ s, x.length ≤ maxLen) (_ : n2 ≤ maxLen) (hr3 : Strs w A3 n3 t) (hs3 : ∀ x ∈ t, x.length ≤ maxLen) (_ : n3 ≤ maxLen) :
    Calls Try.prog 6 #[.slice A0 n0 c0, .slice A1 n1 c1, .slice A2 n2 c2, .slice A3 n3 c3] w fun e w' => e = .returned (.bool true) ∧ Below w.heap.size w w' := by
  by_cases h0 : n0 ≤ 60
  · by_cases h1 : n1 ≤ 60
    · by_cases h2 : n2 ≤ 60
      · by_cases h3 : n3 ≤ 60
        · exact packOne_walk A0 n0 c0 a A1 n1 c1 b A2 n2 c2 s A3 n3 c3 t w hr0 hI0 hr1 hI1 hr2 hs2 hr3 hs3 h0 h1 h2 h3
        · have g0 : decide ((60 : Int) < n0) = false := by simp; omega
          have g1 : decide ((60 : Int) < n1) = false := by simp; omega
          have g2 : decide ((60 : Int) < n2) = false := by simp; omega
          have g3 : decide ((60 : Int) < n3) = true := by simp; omega
          clear hI0 hI1 hs2 hs3 hr0 hr1 hr2 hr3
          go_enter Try.func6, Try.ntmps6
          go_wp2_with fail
          refine (alive_any _).mono ?_
          rintro e w1 ⟨rfl, hbel⟩
          go_wp2_with fail
          go_ret
          exact ⟨rfl, hbel⟩
      · have g0 : decide ((60 : Int) < n0) = false := by simp; omega
        have g1 : decide ((60 : Int) < n1) = false := by simp; omega
        have g2 : decide ((60 : Int) < n2) = true := by simp; omega
        clear hI0 hI1 hs2 hs3 hr0 hr1 hr2 hr3
        go_enter Try.func6, Try.ntmps6
        go_wp2_with fail
        refine (alive_any _).mono ?_
        rintro e w1 ⟨rfl, hbel⟩
        go_wp2_with fail
        go_ret
        exact ⟨rfl, hbel⟩
    · have g0 : decide ((60 : Int) < n0) = false := by simp; omega
      have g1 : decide ((60 : Int) < n1) = true := by simp; omega
      clear hI0 hI1 hs2 hs3 hr0 hr1 hr2 hr3
      go_enter Try.func6, Try.ntmps6
      go_wp2_with fail
      refine (alive_any _).mono ?_
      rintro e w1 ⟨rfl, hbel⟩
      go_wp2_with fail
      go_ret
      exact ⟨rfl, hbel⟩
  · have g0 : decide ((60 : Int) < n0) = true := by simp; omega
    clear hI0 hI1 hs2 hs3 hr0 hr1 hr2 hr3
    go_enter Try.func6, Try.ntmps6
    go_wp2_with fail
    refine (alive_any _).mono ?_
    rintro e w1 ⟨rfl, hbel⟩
    go_wp2_with fail
    go_ret
    exact ⟨rfl, hbel⟩
end Go.Proofs.Ytlheijpfmihhaaa
