/- strconv's commonPrefixLenIgnoreCase and special. -/
/- strconv's special: the texts of infinities and NaN. -/
/- strconv's special, whatever the text. -/
import Derived.Test.YtkaeaiagmihmgaaGreatDoorQFyD
import Derived.OwnWalk
namespace Go.Proofs.YtkaeaiagmihmgaaGreatDoor
open Go.RowKit Go.Sort

/-- A letter in lower case. -/
def lowC (c : Nat) : Nat := if 65 ≤ c ∧ c ≤ 90 then c + 32 else c
def cpl : List UInt8 → List UInt8 → Nat
  | a :: s, b :: p => if lowC a.toNat = b.toNat then cpl s p + 1 else 0
  | _, _ => 0
theorem cpl_step {s p : List UInt8} {k : Nat} (h1 : k < s.length) (h2 : k < p.length) :
    cpl (s.drop k) (p.drop k) = if lowC (s.getD k 0).toNat = (p.getD k 0).toNat then cpl (s.drop (k + 1)) (p.drop (k + 1)) + 1 else 0 := by
  rw [List.drop_eq_getElem_cons h1, List.drop_eq_getElem_cons h2, List.getD_eq_getElem?_getD, List.getD_eq_getElem?_getD, List.getElem?_eq_getElem h1, List.getElem?_eq_getElem h2]
  rfl
theorem cpl_end {s p : List UInt8} {k : Nat} (h : s.length ≤ k ∨ p.length ≤ k) : cpl (s.drop k) (p.drop k) = 0 := by
  rcases h with h | h
  · rw [List.drop_of_length_le h]; cases p.drop k <;> rfl
  · rw [List.drop_of_length_le h]; cases s.drop k <;> rfl

set_option maxRecDepth 100000 in
set_option maxHeartbeats 800000 in
theorem cpl_any (s p : List UInt8) (hs : s.length ≤ 1000) (w : World) :
    Calls Tryz.prog 138 #[.string ⟨s.toArray⟩, .string ⟨p.toArray⟩] w fun e w' => e = .returned (.int .i64 (cpl s p)) ∧ w = w' := by
  obtain ⟨n, hn⟩ : ∃ n : Nat, min p.length s.length = n := ⟨_, rfl⟩
  have hn1 : n ≤ s.length := by omega
  have hn2 : n ≤ p.length := by omega
  have hnm : min (p.length : Int) (s.length : Int) = (n : Int) := by omega
  have HN := Lib.hid hn
  clear hn
  go_enter Tryz.func138, Tryz.ntmps138
  go_wp2_with fail
  go_loopw [6] (fun i wr => ∃ (k : Nat), i = .int .i64 k ∧ k ≤ n ∧ wr = w ∧ Hid (k + cpl (s.drop k) (p.drop k) = cpl s p)) (fun i _ => (n - intOf i).toNat)
  case atStart => exact ⟨0, rfl, by omega, rfl, (by show _ = _; rw [List.drop_zero, List.drop_zero, Nat.zero_add])⟩
  case round =>
    obtain ⟨k, rfl, hk, rfl, hH⟩ := hrel
    by_cases hlt : k < n
    · have hks : k < s.length := by omega
      have hkp : k < p.length := by omega
      have hix := fun (ww : World) => run_index_list (P := Tryz.prog) 9 s k k _ Tryz.underlying9 rfl hks rfl ww
      have hiy := fun (ww : World) => run_index_list (P := Tryz.prog) 9 p k k _ Tryz.underlying9 rfl hkp rfl ww
      have hst := cpl_step hks hkp
      have ha := (s.getD k 0).toNat_lt
      have hb := (p.getD k 0).toNat_lt
      obtain ⟨a, hae⟩ : ∃ a, (s.getD k 0).toNat = a := ⟨_, rfl⟩
      obtain ⟨b, hbe⟩ : ∃ b, (p.getD k 0).toNat = b := ⟨_, rfl⟩
      rw [hae] at hix hst ha
      rw [hbe] at hiy hst hb
      have HST := Lib.hid hst
      clear hae hbe hst
      by_cases u1 : 65 ≤ a
      · have u1' : (65 : Int) ≤ (a : Int) := by omega
        by_cases u2 : a ≤ 90
        · have u2' : (a : Int) ≤ 90 := by omega
          have hl : lowC a = a + 32 := by unfold lowC; rw [if_pos ⟨u1, u2⟩]
          have HL := Lib.hid hl
          clear hl
          by_cases hq : a + 32 = b
          · have hqb : (((a : Int) + 32) != (b : Int)) = false := by simp; omega
            go_wp2_with fail
            refine ⟨⟨k + 1, rfl, by omega, trivial, ?_⟩, by simp [intOf]; omega⟩
            show _ = _
            have := HST.out
            rw [if_pos (HL.out.symm ▸ hq)] at this
            have h5 := hH.out
            omega
          · have hqb : (((a : Int) + 32) != (b : Int)) = true := by simp; omega
            go_wp2_with fail
            go_ret
            refine ⟨ret_int ?_, rfl⟩
            have := HST.out
            rw [if_neg (HL.out.symm ▸ hq)] at this
            have h5 := hH.out
            omega
        · have u2' : ¬ (a : Int) ≤ 90 := by omega
          have hl : lowC a = a := by unfold lowC; rw [if_neg (fun h => u2 h.2)]
          have HL := Lib.hid hl
          clear hl
          by_cases hq : a = b
          · have hqb : (((a : Int)) != (b : Int)) = false := by simp; omega
            go_wp2_with fail
            refine ⟨⟨k + 1, rfl, by omega, trivial, ?_⟩, by simp [intOf]; omega⟩
            show _ = _
            have := HST.out
            rw [if_pos (HL.out.symm ▸ hq)] at this
            have h5 := hH.out
            omega
          · have hqb : (((a : Int)) != (b : Int)) = true := by simp; omega
            go_wp2_with fail
            go_ret
            refine ⟨ret_int ?_, rfl⟩
            have := HST.out
            rw [if_neg (HL.out.symm ▸ hq)] at this
            have h5 := hH.out
            omega
      · have u1' : ¬ (65 : Int) ≤ (a : Int) := by omega
        have hl : lowC a = a := by unfold lowC; rw [if_neg (fun h => u1 h.1)]
        have HL := Lib.hid hl
        clear hl
        by_cases hq : a = b
        · have hqb : (((a : Int)) != (b : Int)) = false := by simp; omega
          go_wp2_with fail
          refine ⟨⟨k + 1, rfl, by omega, trivial, ?_⟩, by simp [intOf]; omega⟩
          show _ = _
          have := HST.out
          rw [if_pos (HL.out.symm ▸ hq)] at this
          have h5 := hH.out
          omega
        · have hqb : (((a : Int)) != (b : Int)) = true := by simp; omega
          go_wp2_with fail
          go_ret
          refine ⟨ret_int ?_, rfl⟩
          have := HST.out
          rw [if_neg (HL.out.symm ▸ hq)] at this
          have h5 := hH.out
          omega
    · obtain rfl : n = k := by omega
      have h0 := cpl_end (s := s) (p := p) (k := n) (by have := HN.out; omega)
      have h5 := hH.out
      have h6 : cpl s p = n := by omega
      clear h0 h5
      go_wp2_with fail
      go_ret
      exact ⟨ret_int (by rw [h6]), rfl⟩
end Go.Proofs.YtkaeaiagmihmgaaGreatDoor

namespace Go.Proofs.YtkaeaiagmihmgaaGreatDoor
open Go.RowKit Go.Sort

def infT : List UInt8 := [105, 110, 102, 105, 110, 105, 116, 121]
def nanT : List UInt8 := [110, 97, 110]
def specN (neg : Bool) (z n : Nat) : Option (Nat × Nat) := if n = 8 then some (sgn neg + 9218868437227405312, z + 8) else if 3 ≤ n then some (sgn neg + 9218868437227405312, z + 3) else none
def spec : List UInt8 → Option (Nat × Nat)
  | [] => none
  | a :: r => if a.toNat = 43 then specN false 1 (cpl r infT) else if a.toNat = 45 then specN true 1 (cpl r infT) else if a.toNat = 105 ∨ a.toNat = 73 then specN false 0 (cpl (a :: r) infT)
      else if a.toNat = 110 ∨ a.toNat = 78 then (if cpl (a :: r) nanT = 3 then some (9221120237041090561, 3) else none) else none
def specRes : Option (Nat × Nat) → Value
  | some (f, n) => .tuple #[.float .f64 f, .int .i64 n, .bool true]
  | none => .tuple #[.float .f64 0, .int .i64 0, .bool false]
theorem cpl_le : ∀ (s p : List UInt8), cpl s p ≤ p.length
  | a :: s, b :: p => by
    unfold cpl
    split
    · have := cpl_le s p
      simp
      omega
    · omega
  | [], _ => by unfold cpl; omega
  | _ :: _, [] => by unfold cpl; omega

theorem frombits_lit (b : Nat) (z : Int) (h : z = (b : Int)) (w : World) : (callFunc 135 #[.int .u64 z]).run Tryz.prog w = .ok (.value (.float .f64 b)) w := by
  subst h
  exact frombits' b w
set_option maxRecDepth 100000 in
theorem inf_any (w : World) (neg : Bool) : Calls Tryz.prog 139 #[.int .i64 (if neg then -1 else 1)] w fun e w' => e = .returned (.float .f64 (sgn neg + 9218868437227405312)) ∧ w = w' := by
  have f2 := frombits_lit 9218868437227405312 9218868437227405312 rfl
  have f3 := frombits_lit 18442240474082181120 18442240474082181120 rfl
  cases neg with
  | true =>
    go_enter Tryz.func139, Tryz.ntmps139
    go_wp2_with fail
    go_ret
    exact ⟨rfl, rfl⟩
  | false =>
    go_enter Tryz.func139, Tryz.ntmps139
    go_wp2_with fail
    go_ret
    exact ⟨rfl, rfl⟩
set_option maxRecDepth 100000 in
theorem nanf_any (w : World) : Calls Tryz.prog 140 #[] w fun e w' => e = .returned (.float .f64 9221120237041090561) ∧ w = w' := by
  have f3 := frombits_lit 9221120237041090561 9221120237041090561 rfl
  go_enter Tryz.func140, Tryz.ntmps140
  go_wp2_with fail
  go_ret
  exact ⟨rfl, rfl⟩

set_option maxRecDepth 100000 in
set_option maxHeartbeats 800000 in
theorem special_plus (r : List UInt8) (hr : r.length ≤ 100) (w : World) :
    Calls Tryz.prog 126 #[.string ⟨((43 : UInt8) :: r).toArray⟩] w fun e w' => e = .returned (specRes (specN false 1 (cpl (r) infT))) ∧ w = w' := by
  have hix := fun (ww : World) => run_index_list (P := Tryz.prog) 9 ((43 : UInt8) :: r) 0 0 43 Tryz.underlying9 rfl (by simp) rfl ww
  have e1 : (ByteArray.mk ((43 : UInt8) :: r).toArray).extract 1 (r.length + 1) = ⟨r.toArray⟩ := extract_drop ((43 : UInt8) :: r) 1
  have hle := cpl_le (r) infT
  rw [show infT.length = 8 from rfl] at hle
  obtain ⟨n, hn⟩ : ∃ n, cpl (r) infT = n := ⟨_, rfl⟩
  rw [hn] at hle ⊢
  have HN := Lib.hid hn
  clear hn
  by_cases n8 : n = 8
  · subst n8
    rw [show specN false 1 8 = some (sgn false + 9218868437227405312, 1 + 8) from rfl]
    go_enter Tryz.func126, Tryz.ntmps126
    go_wp2_with fail
    refine (cpl_any _ infT (by omega) _).mono ?_
    rintro e w' ⟨rfl, rfl⟩
    rw [HN.out]
    go_wp2_with fail
    refine (inf_any _ false).mono ?_
    rintro e w' ⟨rfl, rfl⟩
    go_wp2_with fail
    go_ret3
    exact ⟨rfl, rfl⟩
  · by_cases n3 : n = 3
    · subst n3
      rw [show specN false 1 3 = some (sgn false + 9218868437227405312, 1 + 3) from rfl]
      go_enter Tryz.func126, Tryz.ntmps126
      go_wp2_with fail
      refine (cpl_any _ infT (by omega) _).mono ?_
      rintro e w' ⟨rfl, rfl⟩
      rw [HN.out]
      go_wp2_with fail
      refine (inf_any _ false).mono ?_
      rintro e w' ⟨rfl, rfl⟩
      go_wp2_with fail
      go_ret3
      exact ⟨rfl, rfl⟩
    · by_cases n4 : 3 < n
      · have e : specN false 1 n = some (sgn false + 9218868437227405312, 1 + 3) := by unfold specN; rw [if_neg n8, if_pos (by omega)]
        rw [e]
        have v1 : (3 : Int) < (n : Int) := by omega
        have v2 : (n : Int) < 8 := by omega
        clear e
        go_enter Tryz.func126, Tryz.ntmps126
        go_wp2_with fail
        refine (cpl_any _ infT (by omega) _).mono ?_
        rintro e w' ⟨rfl, rfl⟩
        rw [HN.out]
        go_wp2_with fail
        refine (inf_any _ false).mono ?_
        rintro e w' ⟨rfl, rfl⟩
        go_wp2_with fail
        go_ret3
        exact ⟨rfl, rfl⟩
      · have e : specN false 1 n = none := by unfold specN; rw [if_neg n8, if_neg (by omega)]
        rw [e]
        have v1 : ¬ (3 : Int) < (n : Int) := by omega
        have v2 : ((n : Int) == 3) = false := by simp; omega
        have v3 : ((n : Int) == 8) = false := by simp; omega
        clear e
        go_enter Tryz.func126, Tryz.ntmps126
        go_wp2_with fail
        refine (cpl_any _ infT (by omega) _).mono ?_
        rintro e w' ⟨rfl, rfl⟩
        rw [HN.out]
        go_wp2_with fail
        go_ret3
        exact ⟨rfl, rfl⟩

set_option maxRecDepth 100000 in
set_option maxHeartbeats 800000 in
theorem special_minus (r : List UInt8) (hr : r.length ≤ 100) (w : World) :
    Calls Tryz.prog 126 #[.string ⟨((45 : UInt8) :: r).toArray⟩] w fun e w' => e = .returned (specRes (specN true 1 (cpl (r) infT))) ∧ w = w' := by
  have hix := fun (ww : World) => run_index_list (P := Tryz.prog) 9 ((45 : UInt8) :: r) 0 0 45 Tryz.underlying9 rfl (by simp) rfl ww
  have e1 : (ByteArray.mk ((45 : UInt8) :: r).toArray).extract 1 (r.length + 1) = ⟨r.toArray⟩ := extract_drop ((45 : UInt8) :: r) 1
  have hle := cpl_le (r) infT
  rw [show infT.length = 8 from rfl] at hle
  obtain ⟨n, hn⟩ : ∃ n, cpl (r) infT = n := ⟨_, rfl⟩
  rw [hn] at hle ⊢
  have HN := Lib.hid hn
  clear hn
  by_cases n8 : n = 8
  · subst n8
    rw [show specN true 1 8 = some (sgn true + 9218868437227405312, 1 + 8) from rfl]
    go_enter Tryz.func126, Tryz.ntmps126
    go_wp2_with fail
    refine (cpl_any _ infT (by omega) _).mono ?_
    rintro e w' ⟨rfl, rfl⟩
    rw [HN.out]
    go_wp2_with fail
    refine (inf_any _ true).mono ?_
    rintro e w' ⟨rfl, rfl⟩
    go_wp2_with fail
    go_ret3
    exact ⟨rfl, rfl⟩
  · by_cases n3 : n = 3
    · subst n3
      rw [show specN true 1 3 = some (sgn true + 9218868437227405312, 1 + 3) from rfl]
      go_enter Tryz.func126, Tryz.ntmps126
      go_wp2_with fail
      refine (cpl_any _ infT (by omega) _).mono ?_
      rintro e w' ⟨rfl, rfl⟩
      rw [HN.out]
      go_wp2_with fail
      refine (inf_any _ true).mono ?_
      rintro e w' ⟨rfl, rfl⟩
      go_wp2_with fail
      go_ret3
      exact ⟨rfl, rfl⟩
    · by_cases n4 : 3 < n
      · have e : specN true 1 n = some (sgn true + 9218868437227405312, 1 + 3) := by unfold specN; rw [if_neg n8, if_pos (by omega)]
        rw [e]
        have v1 : (3 : Int) < (n : Int) := by omega
        have v2 : (n : Int) < 8 := by omega
        clear e
        go_enter Tryz.func126, Tryz.ntmps126
        go_wp2_with fail
        refine (cpl_any _ infT (by omega) _).mono ?_
        rintro e w' ⟨rfl, rfl⟩
        rw [HN.out]
        go_wp2_with fail
        refine (inf_any _ true).mono ?_
        rintro e w' ⟨rfl, rfl⟩
        go_wp2_with fail
        go_ret3
        exact ⟨rfl, rfl⟩
      · have e : specN true 1 n = none := by unfold specN; rw [if_neg n8, if_neg (by omega)]
        rw [e]
        have v1 : ¬ (3 : Int) < (n : Int) := by omega
        have v2 : ((n : Int) == 3) = false := by simp; omega
        have v3 : ((n : Int) == 8) = false := by simp; omega
        clear e
        go_enter Tryz.func126, Tryz.ntmps126
        go_wp2_with fail
        refine (cpl_any _ infT (by omega) _).mono ?_
        rintro e w' ⟨rfl, rfl⟩
        rw [HN.out]
        go_wp2_with fail
        go_ret3
        exact ⟨rfl, rfl⟩
end Go.Proofs.YtkaeaiagmihmgaaGreatDoor

namespace Go.Proofs.YtkaeaiagmihmgaaGreatDoor
open Go.RowKit Go.Sort

set_option maxRecDepth 100000 in
set_option maxHeartbeats 800000 in
theorem special_i (r : List UInt8) (hr : r.length ≤ 100) (w : World) :
    Calls Tryz.prog 126 #[.string ⟨((105 : UInt8) :: r).toArray⟩] w fun e w' => e = .returned (specRes (specN false 0 (cpl ((105 : UInt8) :: r) infT))) ∧ w = w' := by
  have hix := fun (ww : World) => run_index_list (P := Tryz.prog) 9 ((105 : UInt8) :: r) 0 0 105 Tryz.underlying9 rfl (by simp) rfl ww
  have hle := cpl_le ((105 : UInt8) :: r) infT
  rw [show infT.length = 8 from rfl] at hle
  obtain ⟨n, hn⟩ : ∃ n, cpl ((105 : UInt8) :: r) infT = n := ⟨_, rfl⟩
  rw [hn] at hle ⊢
  have HN := Lib.hid hn
  clear hn
  by_cases n8 : n = 8
  · subst n8
    rw [show specN false 0 8 = some (sgn false + 9218868437227405312, 0 + 8) from rfl]
    go_enter Tryz.func126, Tryz.ntmps126
    go_wp2_with fail
    refine (cpl_any _ infT (by simp; omega) _).mono ?_
    rintro e w' ⟨rfl, rfl⟩
    rw [HN.out]
    go_wp2_with fail
    refine (inf_any _ false).mono ?_
    rintro e w' ⟨rfl, rfl⟩
    go_wp2_with fail
    go_ret3
    exact ⟨rfl, rfl⟩
  · by_cases n3 : n = 3
    · subst n3
      rw [show specN false 0 3 = some (sgn false + 9218868437227405312, 0 + 3) from rfl]
      go_enter Tryz.func126, Tryz.ntmps126
      go_wp2_with fail
      refine (cpl_any _ infT (by simp; omega) _).mono ?_
      rintro e w' ⟨rfl, rfl⟩
      rw [HN.out]
      go_wp2_with fail
      refine (inf_any _ false).mono ?_
      rintro e w' ⟨rfl, rfl⟩
      go_wp2_with fail
      go_ret3
      exact ⟨rfl, rfl⟩
    · by_cases n4 : 3 < n
      · have e : specN false 0 n = some (sgn false + 9218868437227405312, 0 + 3) := by unfold specN; rw [if_neg n8, if_pos (by omega)]
        rw [e]
        have v1 : (3 : Int) < (n : Int) := by omega
        have v2 : (n : Int) < 8 := by omega
        clear e
        go_enter Tryz.func126, Tryz.ntmps126
        go_wp2_with fail
        refine (cpl_any _ infT (by simp; omega) _).mono ?_
        rintro e w' ⟨rfl, rfl⟩
        rw [HN.out]
        go_wp2_with fail
        refine (inf_any _ false).mono ?_
        rintro e w' ⟨rfl, rfl⟩
        go_wp2_with fail
        go_ret3
        exact ⟨rfl, rfl⟩
      · have e : specN false 0 n = none := by unfold specN; rw [if_neg n8, if_neg (by omega)]
        rw [e]
        have v1 : ¬ (3 : Int) < (n : Int) := by omega
        have v2 : ((n : Int) == 3) = false := by simp; omega
        have v3 : ((n : Int) == 8) = false := by simp; omega
        clear e
        go_enter Tryz.func126, Tryz.ntmps126
        go_wp2_with fail
        refine (cpl_any _ infT (by simp; omega) _).mono ?_
        rintro e w' ⟨rfl, rfl⟩
        rw [HN.out]
        go_wp2_with fail
        go_ret3
        exact ⟨rfl, rfl⟩

set_option maxRecDepth 100000 in
set_option maxHeartbeats 800000 in
theorem special_I (r : List UInt8) (hr : r.length ≤ 100) (w : World) :
    Calls Tryz.prog 126 #[.string ⟨((73 : UInt8) :: r).toArray⟩] w fun e w' => e = .returned (specRes (specN false 0 (cpl ((73 : UInt8) :: r) infT))) ∧ w = w' := by
  have hix := fun (ww : World) => run_index_list (P := Tryz.prog) 9 ((73 : UInt8) :: r) 0 0 73 Tryz.underlying9 rfl (by simp) rfl ww
  have hle := cpl_le ((73 : UInt8) :: r) infT
  rw [show infT.length = 8 from rfl] at hle
  obtain ⟨n, hn⟩ : ∃ n, cpl ((73 : UInt8) :: r) infT = n := ⟨_, rfl⟩
  rw [hn] at hle ⊢
  have HN := Lib.hid hn
  clear hn
  by_cases n8 : n = 8
  · subst n8
    rw [show specN false 0 8 = some (sgn false + 9218868437227405312, 0 + 8) from rfl]
    go_enter Tryz.func126, Tryz.ntmps126
    go_wp2_with fail
    refine (cpl_any _ infT (by simp; omega) _).mono ?_
    rintro e w' ⟨rfl, rfl⟩
    rw [HN.out]
    go_wp2_with fail
    refine (inf_any _ false).mono ?_
    rintro e w' ⟨rfl, rfl⟩
    go_wp2_with fail
    go_ret3
    exact ⟨rfl, rfl⟩
  · by_cases n3 : n = 3
    · subst n3
      rw [show specN false 0 3 = some (sgn false + 9218868437227405312, 0 + 3) from rfl]
      go_enter Tryz.func126, Tryz.ntmps126
      go_wp2_with fail
      refine (cpl_any _ infT (by simp; omega) _).mono ?_
      rintro e w' ⟨rfl, rfl⟩
      rw [HN.out]
      go_wp2_with fail
      refine (inf_any _ false).mono ?_
      rintro e w' ⟨rfl, rfl⟩
      go_wp2_with fail
      go_ret3
      exact ⟨rfl, rfl⟩
    · by_cases n4 : 3 < n
      · have e : specN false 0 n = some (sgn false + 9218868437227405312, 0 + 3) := by unfold specN; rw [if_neg n8, if_pos (by omega)]
        rw [e]
        have v1 : (3 : Int) < (n : Int) := by omega
        have v2 : (n : Int) < 8 := by omega
        clear e
        go_enter Tryz.func126, Tryz.ntmps126
        go_wp2_with fail
        refine (cpl_any _ infT (by simp; omega) _).mono ?_
        rintro e w' ⟨rfl, rfl⟩
        rw [HN.out]
        go_wp2_with fail
        refine (inf_any _ false).mono ?_
        rintro e w' ⟨rfl, rfl⟩
        go_wp2_with fail
        go_ret3
        exact ⟨rfl, rfl⟩
      · have e : specN false 0 n = none := by unfold specN; rw [if_neg n8, if_neg (by omega)]
        rw [e]
        have v1 : ¬ (3 : Int) < (n : Int) := by omega
        have v2 : ((n : Int) == 3) = false := by simp; omega
        have v3 : ((n : Int) == 8) = false := by simp; omega
        clear e
        go_enter Tryz.func126, Tryz.ntmps126
        go_wp2_with fail
        refine (cpl_any _ infT (by simp; omega) _).mono ?_
        rintro e w' ⟨rfl, rfl⟩
        rw [HN.out]
        go_wp2_with fail
        go_ret3
        exact ⟨rfl, rfl⟩

set_option maxRecDepth 100000 in
set_option maxHeartbeats 800000 in
theorem special_n (r : List UInt8) (hr : r.length ≤ 100) (w : World) :
    Calls Tryz.prog 126 #[.string ⟨((110 : UInt8) :: r).toArray⟩] w fun e w' => e = .returned (specRes (if cpl ((110 : UInt8) :: r) nanT = 3 then some (9221120237041090561, 3) else none)) ∧ w = w' := by
  have hix := fun (ww : World) => run_index_list (P := Tryz.prog) 9 ((110 : UInt8) :: r) 0 0 110 Tryz.underlying9 rfl (by simp) rfl ww
  obtain ⟨n, hn⟩ : ∃ n, cpl ((110 : UInt8) :: r) nanT = n := ⟨_, rfl⟩
  rw [hn]
  have HN := Lib.hid hn
  clear hn
  by_cases n3 : n = 3
  · subst n3
    rw [if_pos rfl]
    go_enter Tryz.func126, Tryz.ntmps126
    go_wp2_with fail
    refine (cpl_any _ nanT (by simp; omega) _).mono ?_
    rintro e w' ⟨rfl, rfl⟩
    rw [HN.out]
    go_wp2_with fail
    refine (nanf_any _).mono ?_
    rintro e w' ⟨rfl, rfl⟩
    go_wp2_with fail
    go_ret3
    exact ⟨rfl, rfl⟩
  · rw [if_neg n3]
    have v2 : ((n : Int) == 3) = false := by simp; omega
    go_enter Tryz.func126, Tryz.ntmps126
    go_wp2_with fail
    refine (cpl_any _ nanT (by simp; omega) _).mono ?_
    rintro e w' ⟨rfl, rfl⟩
    rw [HN.out]
    go_wp2_with fail
    go_ret3
    exact ⟨rfl, rfl⟩

set_option maxRecDepth 100000 in
set_option maxHeartbeats 800000 in
theorem special_N (r : List UInt8) (hr : r.length ≤ 100) (w : World) :
    Calls Tryz.prog 126 #[.string ⟨((78 : UInt8) :: r).toArray⟩] w fun e w' => e = .returned (specRes (if cpl ((78 : UInt8) :: r) nanT = 3 then some (9221120237041090561, 3) else none)) ∧ w = w' := by
  have hix := fun (ww : World) => run_index_list (P := Tryz.prog) 9 ((78 : UInt8) :: r) 0 0 78 Tryz.underlying9 rfl (by simp) rfl ww
  obtain ⟨n, hn⟩ : ∃ n, cpl ((78 : UInt8) :: r) nanT = n := ⟨_, rfl⟩
  rw [hn]
  have HN := Lib.hid hn
  clear hn
  by_cases n3 : n = 3
  · subst n3
    rw [if_pos rfl]
    go_enter Tryz.func126, Tryz.ntmps126
    go_wp2_with fail
    refine (cpl_any _ nanT (by simp; omega) _).mono ?_
    rintro e w' ⟨rfl, rfl⟩
    rw [HN.out]
    go_wp2_with fail
    refine (nanf_any _).mono ?_
    rintro e w' ⟨rfl, rfl⟩
    go_wp2_with fail
    go_ret3
    exact ⟨rfl, rfl⟩
  · rw [if_neg n3]
    have v2 : ((n : Int) == 3) = false := by simp; omega
    go_enter Tryz.func126, Tryz.ntmps126
    go_wp2_with fail
    refine (cpl_any _ nanT (by simp; omega) _).mono ?_
    rintro e w' ⟨rfl, rfl⟩
    rw [HN.out]
    go_wp2_with fail
    go_ret3
    exact ⟨rfl, rfl⟩

set_option maxRecDepth 100000 in
set_option maxHeartbeats 800000 in
theorem special_other (a : UInt8) (r : List UInt8) (hr : r.length ≤ 100) (h1 : a.toNat ≠ 43) (h2 : a.toNat ≠ 45) (h3 : a.toNat ≠ 105) (h4 : a.toNat ≠ 73) (h5 : a.toNat ≠ 110) (h6 : a.toNat ≠ 78) (w : World) :
    Calls Tryz.prog 126 #[.string ⟨(a :: r).toArray⟩] w fun e w' => e = .returned (specRes none) ∧ w = w' := by
  have hix := fun (ww : World) => run_index_list (P := Tryz.prog) 9 (a :: r) 0 0 _ Tryz.underlying9 rfl (by simp) rfl ww
  rw [show ((a :: r).getD 0 0).toNat = a.toNat from rfl] at hix
  obtain ⟨c, hc⟩ : ∃ c, a.toNat = c := ⟨_, rfl⟩
  rw [hc] at hix h1 h2 h3 h4 h5 h6
  have t1 : ((c : Int) == 43) = false := by simp; omega
  have t2 : ((c : Int) == 45) = false := by simp; omega
  have t3 : ((c : Int) == 105) = false := by simp; omega
  have t4 : ((c : Int) == 73) = false := by simp; omega
  have t5 : ((c : Int) == 110) = false := by simp; omega
  have t6 : ((c : Int) == 78) = false := by simp; omega
  clear hc h1 h2 h3 h4 h5 h6
  go_enter Tryz.func126, Tryz.ntmps126
  go_wp2_with fail
  go_ret3
  exact ⟨rfl, rfl⟩
set_option maxRecDepth 100000 in
theorem special_nil (w : World) : Calls Tryz.prog 126 #[.string ⟨#[]⟩] w fun e w' => e = .returned (specRes none) ∧ w = w' := by
  go_enter Tryz.func126, Tryz.ntmps126
  go_wp2_with fail
  go_ret3
  exact ⟨rfl, rfl⟩
theorem special_any (s : List UInt8) (hs : s.length ≤ 100) (w : World) : Calls Tryz.prog 126 #[.string ⟨s.toArray⟩] w fun e w' => e = .returned (specRes (spec s)) ∧ w = w' := by
  cases s with
  | nil => exact special_nil w
  | cons a r =>
    have hr : r.length ≤ 100 := by simp at hs; omega
    have lit : ∀ (n : Nat) (c : UInt8), c.toNat = n → a.toNat = n → a = c := fun n c h1 h2 => UInt8.toNat_inj.1 (h2.trans h1.symm)
    unfold spec
    dsimp only
    by_cases c1 : a.toNat = 43
    · rw [if_pos c1]; obtain rfl := lit 43 43 rfl c1; exact special_plus r hr w
    · rw [if_neg c1]
      by_cases c2 : a.toNat = 45
      · rw [if_pos c2]; obtain rfl := lit 45 45 rfl c2; exact special_minus r hr w
      · rw [if_neg c2]
        by_cases c3 : a.toNat = 105 ∨ a.toNat = 73
        · rw [if_pos c3]
          rcases c3 with c3 | c3
          · obtain rfl := lit 105 105 rfl c3; exact special_i r hr w
          · obtain rfl := lit 73 73 rfl c3; exact special_I r hr w
        · rw [if_neg c3]
          by_cases c4 : a.toNat = 110 ∨ a.toNat = 78
          · rw [if_pos c4]
            rcases c4 with c4 | c4
            · obtain rfl := lit 110 110 rfl c4; exact special_n r hr w
            · obtain rfl := lit 78 78 rfl c4; exact special_N r hr w
          · rw [if_neg c4]
            exact special_other a r hr c1 c2 (fun h => c3 (.inl h)) (fun h => c3 (.inr h)) (fun h => c4 (.inl h)) (fun h => c4 (.inr h)) w
end Go.Proofs.YtkaeaiagmihmgaaGreatDoor
