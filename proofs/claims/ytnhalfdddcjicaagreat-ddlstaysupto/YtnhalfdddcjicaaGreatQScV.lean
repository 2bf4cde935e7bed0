/- The reference's kind (layer 8), walked: its errors. -/
import Derived.Test.YtnhalfdddcjicaaGreatQJbe
import Derived.Deep.DeepCutAuto
namespace Go.Proofs.YtnhalfdddcjicaaGreat
open Go.RowKit

def countOf (op : Int) : Int := if op = 1 ∨ op = 2 then 0 else if op = 7 ∨ op = 8 then 1 else if op = 3 ∨ op = 4 ∨ op = 5 ∨ op = 6 ∨ op = 9 ∨ op = 10 then 2 else -1
theorem ops_count (op : Int) (n : Nat) : hasOps op n = decide (countOf op = (n : Int)) := by
  unfold hasOps countOf
  split
  · simp; omega
  · split
    · simp; omega
    · split <;> simp <;> omega
set_option maxHeartbeats 1600000 in
theorem count_any (op : Int) (w : World) : Calls Tryz.prog 109 #[.int .i64 op] w fun e w' => e = .returned (.int .i64 (countOf op)) ∧ w' = w := by
  have H : Hid (countOf op = if op = 1 ∨ op = 2 then 0 else if op = 7 ∨ op = 8 then 1 else if op = 3 ∨ op = 4 ∨ op = 5 ∨ op = 6 ∨ op = 9 ∨ op = 10 then 2 else -1) := rfl
  go_enter Tryz.func109, Tryz.ntmps109
  go_wp2
  all_goals
    go_ret
    exact ⟨ret_int (by rw [H.out]; simp_all), rfl⟩
def kqT : Except Int Int → Value
  | .ok k => .tuple #[.int .i64 k, .int .i64 0]
  | .error r => .tuple #[.int .i64 0, .int .i64 r]
theorem commonK_rng {a b c : Int} (ha : 0 ≤ a ∧ a ≤ 3) (hb : 0 ≤ b ∧ b ≤ 3) (h : commonK a b = some c) : c = max a b ∧ (a = b ∨ a = 0 ∨ b = 0) ∧ 0 ≤ c ∧ c ≤ 3 := by
  unfold commonK at h
  split at h
  · injection h with h; omega
  · split at h
    · injection h with h; omega
    · cases h
theorem pairK_rng {op a b c : Int} (ha : 0 ≤ a ∧ a ≤ 3) (hb : 0 ≤ b ∧ b ≤ 3) (h : pairK op a b = some c) : 0 ≤ c ∧ c ≤ 3 := by
  unfold pairK at h
  split at h
  · split at h
    · injection h with h; omega
    · cases h
  · split at h
    · cases hc : commonK a b with
      | none => rw [hc] at h; cases h
      | some k => rw [hc] at h; have h' : (some 1 : Option Int) = some c := h; injection h' with h'; omega
    · cases hc : commonK a b with
      | none => rw [hc] at h; cases h
      | some k =>
        rw [hc] at h
        have h' : (if k = 3 then none else some k : Option Int) = some c := h
        have := commonK_rng ha hb hc
        split at h'
        · cases h'
        · injection h' with h'; omega
theorem kindQ_rng {ks : List Int} (hk : ∀ k ∈ ks, 0 ≤ k ∧ k ≤ 3) : ∀ (e : Ex) (k : Int), kindQ ks e = .ok k → 0 ≤ k ∧ k ≤ 3
  | .nil, k, h => by cases h
  | .mk op col v A n cap arg, k, h => by
    rw [kindQ] at h
    have hb : ∀ (x : Except Int Int) (f : Int → Except Int Int), x.bind f = .ok k → ∃ a, x = .ok a ∧ f a = .ok k := fun x f hx => by
      cases x with
      | error z => cases hx
      | ok a => exact ⟨a, rfl, hx⟩
    repeat' split at h
    · cases h
    · cases h
    · rename_i hg; cases h; have := good_kind hg; omega
    · cases h
    · unfold colQ at h
      split at h
      · rename_i hr
        cases h
        have hl : col.toNat < ks.length := by omega
        rw [List.getD_eq_getElem?_getD, List.getElem?_eq_getElem hl]
        exact hk _ (List.getElem_mem hl)
      · cases h
    · obtain ⟨a, h1, h2⟩ := hb _ _ h
      split at h2 <;> cases h2
      omega
    · cases hx : kindQ ks (arg 0) with
      | error z => rw [hx] at h; cases h
      | ok a => rw [hx] at h; have h' : (Except.ok 1 : Except Int Int) = .ok k := h; injection h' with h'; omega
    · obtain ⟨a, h1, h2⟩ := hb _ _ h
      obtain ⟨b, h3, h4⟩ := hb _ _ h2
      have ra := kindQ_rng hk (arg 0) a h1
      have rb := kindQ_rng hk (arg 1) b h3
      cases hp : pairK op a b with
      | none => rw [hp] at h4; cases h4
      | some c =>
        rw [hp] at h4
        have h5 : (Except.ok c : Except Int Int) = .ok k := h4
        injection h5 with h5
        subst h5
        exact pairK_rng ra rb hp

theorem run_neq_val (k n : Int) (t : List UInt8) (ww : World) : (binOp .neq 27 (.agg #[.int .i64 k, .int .i64 n, .string ⟨t.toArray⟩]) (.agg #[.int .i64 0, .int .i64 0, .string ⟨#[]⟩])).run Tryz.prog ww = .ok (.bool (!decide (k = 0 ∧ n = 0 ∧ t = []))) ww := by
  by_cases hk : k = 0
  · subst hk
    by_cases hn : n = 0
    · subst hn
      cases t with
      | nil => go_simp
      | cons a r => go_simp
    · have e : (n == 0) = false := by simpa using hn
      go_simp
  · have e : (k == 0) = false := by simpa using hk
    go_simp
/-- An operand's kind, where it has one. -/
def kv (ks : List Int) (arg : Nat → Ex) (j : Nat) : Int := match kindQ ks (arg j) with | .ok k => k | .error _ => 0
def sameB (x y : Int) : Bool := decide (x = y ∨ x = 0 ∨ y = 0)
theorem common_same {x y : Int} (hx : 0 ≤ x ∧ x ≤ 3) (hy : 0 ≤ y ∧ y ≤ 3) : commonK x y = if sameB x y = true then some (max x y) else none := by
  unfold commonK sameB
  by_cases h0 : x = 0
  · rw [if_pos h0, if_pos (by simp; omega)]; congr 1; omega
  · rw [if_neg h0]
    by_cases h1 : x = y ∨ y = 0
    · rw [if_pos h1, if_pos (by simp; omega)]; congr 1; omega
    · rw [if_neg h1, if_neg (by simp; omega)]
theorem pair_cmp {x y : Int} {op : Int} (ho : op = 3 ∨ op = 4) (hx : 0 ≤ x ∧ x ≤ 3) (hy : 0 ≤ y ∧ y ≤ 3) : toQ (pairK op x y) = if sameB x y = true then .ok 1 else .error 9 := by
  unfold pairK
  rw [if_neg (by omega), if_pos ho, common_same hx hy]
  cases sameB x y <;> rfl
theorem pair_and {x y : Int} {op : Int} (ho : op = 5 ∨ op = 6) (hx : 0 ≤ x ∧ x ≤ 3) (hy : 0 ≤ y ∧ y ≤ 3) : toQ (pairK op x y) = if x ≤ 1 ∧ y ≤ 1 then .ok 1 else .error 9 := by
  unfold pairK
  rw [if_pos ho]
  by_cases h : x ≤ 1 ∧ y ≤ 1
  · rw [if_pos h, if_pos (by rw [truthK_iff, truthK_iff]; omega)]; rfl
  · rw [if_neg h, if_neg (by rw [truthK_iff, truthK_iff]; omega)]; rfl
theorem pair_num {x y : Int} {op : Int} (ho : op = 9 ∨ op = 10) (hx : 0 ≤ x ∧ x ≤ 3) (hy : 0 ≤ y ∧ y ≤ 3) : toQ (pairK op x y) = if sameB x y = true then (if max x y = 3 then .error 9 else .ok (max x y)) else .error 9 := by
  unfold pairK
  rw [if_neg (by omega), if_neg (by omega), common_same hx hy]
  cases sameB x y
  · rfl
  · show toQ (if max x y = 3 then none else some (max x y)) = _
    by_cases h : max x y = 3
    · rw [if_pos h, if_pos rfl, if_pos h]; rfl
    · rw [if_neg h, if_pos rfl, if_neg h]; rfl

set_option maxRecDepth 100000 in
set_option maxHeartbeats 12800000 in
theorem kindR_any (e : Ex) : ∀ (w : World) (A : Option Addr) (n cap : Nat) (ks : List Int), InE w e → Cols w A n ks → (∀ k ∈ ks, 0 ≤ k ∧ k ≤ 3) → n ≤ maxLen →
    Calls Tryz.prog 86 #[e.val, .slice A n cap] w fun en w' => en = .returned (kqT (kindQ ks e)) ∧ Below w.heap.size w w' := by
  induction e with
  | nil => intro w A n cap ks h; exact h.elim
  | mk op col v B p cp arg ih =>
    intro w A n cap ks hin hcols hks hn
    have hct := count_any op
    have hop := ops_count op p
    have H : Hid (kindQ ks (.mk op col v B p cp arg) = if hasOps op p = false then .error 4 else if unused op col v = false then .error 4 else if op = 1 then (if goodV v = true then .ok v.kind else .error 4) else if op = 2 then colQ ks col
      else if op = 7 then (kindQ ks (arg 0)).bind fun k => if truthK k = true then .ok 1 else .error 9 else if op = 8 then (kindQ ks (arg 0)).map fun _ => 1 else (kindQ ks (arg 0)).bind fun a => (kindQ ks (arg 1)).bind fun b => toQ (pairK op a b)) := by rw [kindQ]; exact Lib.hid rfl
    have HU : Hid (unused op col v = ((decide (op = 2) || decide (col = 0)) && (decide (op = 1) || decide (v = ⟨0, 0, []⟩)))) := rfl
    rw [InE] at hin
    obtain ⟨-, hcol, hv, hp, harg⟩ := hin
    unfold maxLen at hp
    have hvg := rgood_any v hv
    clear hv
    obtain ⟨vk, vn, vt⟩ := v
    simp only [Ex.val, Ex.op, Ex.col, Ex.v, Ex.A, Ex.n, Ex.cap, Vl.val] at hvg ⊢
    have hb := below_box w (.cells #[.int .i64 op, .int .i64 col, .int .i64 vk, .int .i64 vn, .string ⟨vt.toArray⟩, .slice B p cp] 67)
    have hA := At.fresh w 67 #[.int .i64 op, .int .i64 col, .int .i64 vk, .int .i64 vn, .string ⟨vt.toArray⟩, .slice B p cp]
    obtain ⟨c0, c1, c2, c3, c4, c5⟩ := hA.six
    generalize kindQ ks (.mk op col ⟨vk, vn, vt⟩ B p cp arg) = kq at *
    by_cases hcp : countOf op = (p : Int)
    case neg =>
      have HE := Lib.hid (H.out.trans (if_pos (by rw [hop]; simpa using hcp)))
      have g1 : (countOf op != (p : Int)) = true := by simpa using hcp
      clear H HU hcp ih harg hcols hop
      generalize countOf op = ct at *
      go_enter Tryz.func86, Tryz.ntmps86
      go_wp2_with fail
      go_quiet ((go_at_call 109; refine Calls.quiet_of_same (hct _)))
      go_wp2_with fail
      refine bodyPost_ret (results_tmp2 rfl _ _ _) rfl ⟨?_, below_nq hb _⟩
      rw [HE.out]
      rfl
    case pos =>
    have H := Lib.hid (H.out.trans (if_neg (by rw [hop]; simpa using hcp)))
    have g1 : (countOf op != (p : Int)) = false := by simpa using hcp
    by_cases h2c : op = 2 ∨ col = 0
    case neg =>
      have g2 : (op != 2) = true := by simp; omega
      have g3 : (col != 0) = true := by simp; omega
      have HE := Lib.hid (H.out.trans (if_pos (by rw [HU.out]; simp; omega)))
      clear H HU hcp ih harg hcols hop h2c
      generalize countOf op = ct at *
      go_enter Tryz.func86, Tryz.ntmps86
      go_wp2_with fail
      go_quiet ((go_at_call 109; refine Calls.quiet_of_same (hct _)))
      go_wp2_with fail
      refine bodyPost_ret (results_tmp2 rfl _ _ _) rfl ⟨?_, below_nq hb _⟩
      rw [HE.out]
      rfl
    case pos =>
    have g23 : (op != 2) = false ∨ (op != 2) = true ∧ (col != 0) = false := by simp; omega
    by_cases h1v : op = 1 ∨ (vk = 0 ∧ vn = 0 ∧ vt = [])
    case neg =>
      have g4 : (op != 1) = true := by have : ¬ op = 1 := fun e => h1v (.inl e); simpa using this
      have hdv : decide (vk = 0 ∧ vn = 0 ∧ vt = []) = false := by simpa using fun e => h1v (.inr e)
      have hne := run_neq_val vk vn vt
      rw [hdv] at hne
      have HE := Lib.hid (H.out.trans (if_pos (by
        rw [HU.out]
        have e1 : decide (op = 1) = false := by simpa using fun e => h1v (.inl e)
        have e2 : decide ((⟨vk, vn, vt⟩ : Vl) = ⟨0, 0, []⟩) = false := by simpa using hdv
        rw [e1, e2]; simp)))
      clear H HU hcp ih harg hcols hop h2c hdv h1v
      generalize countOf op = ct at *
      rcases g23 with g2 | ⟨g2, g3⟩
      all_goals
        go_enter Tryz.func86, Tryz.ntmps86
        go_wp2_with fail
        go_quiet ((go_at_call 109; refine Calls.quiet_of_same (hct _)))
        go_wp2_with fail
        refine bodyPost_ret (results_tmp2 rfl _ _ _) rfl ⟨?_, below_nq hb _⟩
        rw [HE.out]
        rfl
    case pos =>
    have HF := Lib.hid (H.out.trans (if_neg (by
      rw [HU.out]
      have e1 : (decide (op = 2) || decide (col = 0)) = true := by simpa using h2c
      have e2 : (decide (op = 1) || decide ((⟨vk, vn, vt⟩ : Vl) = ⟨0, 0, []⟩)) = true := by simpa using h1v
      rw [e1, e2]; simp)))
    clear HU hop H
    go_enter Tryz.func86, Tryz.ntmps86
    go_upto_region 1 with fail
    go_cut [39] (fun v wx => v = .bool false ∧ Below w.heap.size w wx ∧ At wx w.heap.size 67 #[.int .i64 op, .int .i64 col, .int .i64 vk, .int .i64 vn, .string ⟨vt.toArray⟩, .slice B p cp])
    case first =>
      have hne := run_neq_val vk vn vt
      have g45 : (op != 1) = false ∨ (op != 1) = true ∧ decide (vk = 0 ∧ vn = 0 ∧ vt = []) = true := by
        by_cases e : op = 1
        · exact .inl (by simpa using e)
        · exact .inr ⟨by simpa using e, by simpa using h1v.resolve_left e⟩
      clear HF hcp ih harg hcols h2c h1v hvg
      generalize countOf op = ct at *
      rcases g45 with g4 | ⟨g4, hdv⟩ <;> rcases g23 with g2 | ⟨g2, g3⟩
      all_goals
        try rw [hdv] at hne
        try clear hdv
        go_quiet ((go_at_call 109; refine Calls.quiet_of_same (hct _)))
        go_wp2_with fail
        go_meet
        case rel => exact ⟨rfl, below_nq hb _, hA.keep rfl⟩
    case rest =>
    obtain ⟨rfl, hbc, hAc⟩ := hcut
    clear c0 c1 c2 c3 c4 c5 hA hb hct g1 g23
    obtain ⟨c0, c1, c2, c3, c4, c5⟩ := hAc.six
    have hnec := Nat.ne_of_lt hAc.lt
    have hltc := hAc.lt
    have hopc : op = 1 ∨ op = 2 ∨ op = 3 ∨ op = 4 ∨ op = 5 ∨ op = 6 ∨ op = 7 ∨ op = 8 ∨ op = 9 ∨ op = 10 := by
      unfold countOf at hcp
      by_cases h1 : op = 1 ∨ op = 2
      · omega
      · rw [if_neg h1] at hcp
        by_cases h2 : op = 7 ∨ op = 8
        · omega
        · rw [if_neg h2] at hcp
          by_cases h3 : op = 3 ∨ op = 4 ∨ op = 5 ∨ op = 6 ∨ op = 9 ∨ op = 10
          · omega
          · rw [if_neg h3] at hcp; omega
    have hp2 : p ≤ 2 := by
      have : countOf op ≤ 2 := by unfold countOf; split; omega; split; omega; split <;> omega
      omega
    have h78 : 1 < p → ¬ op = 7 ∧ ¬ op = 8 := fun hh => by
      exact ⟨fun e => by rw [e, show countOf 7 = 1 from rfl] at hcp; omega, fun e => by rw [e, show countOf 8 = 1 from rfl] at hcp; omega⟩
    have h12 : 0 < p → ¬ op = 1 ∧ ¬ op = 2 := fun hh => by
      exact ⟨fun e => by rw [e, show countOf 1 = 0 from rfl] at hcp; omega, fun e => by rw [e, show countOf 2 = 0 from rfl] at hcp; omega⟩
    have HERR : Hid (∀ k r, k < p → (∀ j, j < k → kindQ ks (arg j) = .ok (kv ks arg j)) → kindQ ks (arg k) = .error r → kq = .error r) := fun k r hk hj he => by
      have h1 := h12 (by omega)
      have H1 := HF.out
      rw [if_neg h1.1, if_neg h1.2] at H1
      by_cases hk0 : k = 0
      · subst hk0
        rw [he] at H1
        rw [H1]
        split
        · rfl
        · split <;> rfl
      · obtain rfl : k = 1 := by omega
        have h7 := h78 (by omega)
        rw [if_neg h7.1, if_neg h7.2, hj 0 (by omega), ex_bind, he] at H1
        exact H1
    have hA0 := At.fresh wc 146 #[.int .i64 0, .int .i64 0]
    have hAc1 := hAc.alloc (.cells #[.int .i64 0, .int .i64 0] 146)
    have hbc1 := hbc.alloc hbc.size (.cells #[.int .i64 0, .int .i64 0] 146)
    go_wp2_with fail
    go_loopw [43] (fun i wr => ∃ k : Nat, k ≤ p ∧ i = .int .i64 k ∧ Below w.heap.size w wr ∧ At wr w.heap.size 67 #[.int .i64 op, .int .i64 col, .int .i64 vk, .int .i64 vn, .string ⟨vt.toArray⟩, .slice B p cp] ∧
      At wr wc.heap.size 146 #[.int .i64 (if 0 < k then kv ks arg 0 else 0), .int .i64 (if 1 < k then kv ks arg 1 else 0)] ∧ Hid (∀ j, j < k → kindQ ks (arg j) = .ok (kv ks arg j))) (fun i _ => p - (intOf i).toNat)
    case atStart => exact ⟨0, by omega, rfl, hbc1, hAc1, by simpa using hA0, fun j hj => absurd hj (by omega)⟩
    case round =>
      clear hA0 hAc1 hbc1 hAc c0 c1 c2 c3 c4 c5
      obtain ⟨k, hk, rfl, hbr, hAr, hKr, hok⟩ := hrel
      by_cases hlt : k < p
      · obtain ⟨b, off, rfl, hbl, hcell⟩ := harg (by omega)
        have hcl := (hcell k hlt).1.keep fun i => hbr.cell (p := ⟨b, i, none⟩) hbl
        have hik := (hcell k hlt).2.below hbr
        have hbx := fun o => hbr.alloc hbr.size o
        have iha := fun w' (b' : Below wr.heap.size wr w') => ih k w' A n cap ks (hik.below b') (hcols.below (below_in hbr b')) hks hn
        have HE := HERR.out k
        have hkvk : ∀ z, kindQ ks (arg k) = .ok z → kv ks arg k = z := fun z hz => by unfold kv; rw [hz]
        have herr := kindQ_err ks (arg k)
        have hAx := fun w' (b' : Below wr.heap.size wr w') => hAr.below b' hAr.lt
        have hKx := fun w' (b' : Below wr.heap.size wr w') => hKr.below b' hKr.lt
        unfold Ex.val at iha
        clear ih hcell hik harg HF HERR h78 h12 hopc hcp hvg
        obtain ⟨x0, x1, x2, x3, x4, x5⟩ := hcl
        have hby := below_box wr (.cells #[.int .i64 (arg k).op, .int .i64 (arg k).col, .int .i64 (arg k).v.kind, .int .i64 (arg k).v.num, .string ⟨(arg k).v.text.toArray⟩, .slice (arg k).A (arg k).n (arg k).cap] 67)
        obtain ⟨qk, hqk⟩ : ∃ q, kindQ ks (arg k) = q := ⟨_, rfl⟩
        rw [hqk] at iha HE hkvk herr
        have HQ := Lib.hid hqk
        clear hqk
        go_wp2_with fail
        refine (iha _ hby).mono ?_
        rintro en w2 ⟨rfl, b2⟩
        have hb12 := below_in hby b2
        have hA2 := hAx w2 hb12
        have hK2 := hKx w2 hb12
        have hbw2 := below_in hbr hb12
        clear iha hbx hAx hKx x0 x1 x2 x3 x4 x5 hAr hKr
        cases qk with
        | error r =>
          have HEE := Lib.hid (HE r hlt hok.out rfl)
          have hr0 : (r != 0) = true := by have := herr r rfl; simp; omega
          clear HE hkvk herr
          simp only [kqT]
          go_wp2_with fail
          refine bodyPost_ret (results_tmp2 rfl _ _ _) rfl ⟨?_, hbw2⟩
          rw [HEE.out]
          rfl
        | ok z =>
          have hz := hkvk z rfl
          clear HE hkvk herr
          simp only [kqT]
          have hok2 : Hid (∀ j, j < k + 1 → kindQ ks (arg j) = .ok (kv ks arg j)) := fun j hj => by
            by_cases hjk : j = k
            · subst hjk; rw [HQ.out, hz]
            · exact hok.out j (by omega)
          have hk01 : k = 0 ∨ k = 1 := by omega
          clear HQ hok
          rcases hk01 with rfl | rfl
          · have q0 : w2.cell? ⟨wc.heap.size, 0, none⟩ = some (.int .i64 0) := hK2.cell 0
            have z0 := hK2.unfrozen 0
            have hK3 := hK2.put 0 (.int .i64 z)
            have hA3 := hA2.elsewhere (p := ⟨wc.heap.size, 0, none⟩) hnec (.int .i64 z)
            have hb3 := hbw2.setCell (p := ⟨wc.heap.size, 0, none⟩) hbc.size (.int .i64 z)
            clear hA2 hK2
            go_wp2_with fail
            exact ⟨⟨1, by omega, rfl, hb3, hA3, by rw [hz]; exact hK3, hok2⟩, by simp [intOf]; omega⟩
          · have q0 : w2.cell? ⟨wc.heap.size, 1, none⟩ = some (.int .i64 0) := hK2.cell 1
            have z0 := hK2.unfrozen 1
            have hK3 := hK2.put 1 (.int .i64 z)
            have hA3 := hA2.elsewhere (p := ⟨wc.heap.size, 1, none⟩) hnec (.int .i64 z)
            have hb3 := hbw2.setCell (p := ⟨wc.heap.size, 1, none⟩) hbc.size (.int .i64 z)
            clear hA2 hK2
            go_wp2_with fail
            exact ⟨⟨2, by omega, rfl, hb3, hA3, by rw [hz]; exact hK3, hok2⟩, by simp [intOf]; omega⟩
      · obtain rfl : k = p := by omega
        clear ih harg HERR
        have hx : 0 ≤ (if 0 < k then kv ks arg 0 else 0) ∧ (if 0 < k then kv ks arg 0 else 0) ≤ 3 := by
          split
          · exact kindQ_rng hks _ _ (hok.out 0 (by omega))
          · omega
        have hy : 0 ≤ (if 1 < k then kv ks arg 1 else 0) ∧ (if 1 < k then kv ks arg 1 else 0) ≤ 3 := by
          split
          · exact kindQ_rng hks _ _ (hok.out 1 (by omega))
          · omega
        have HX : Hid (0 < k → kindQ ks (arg 0) = .ok (if 0 < k then kv ks arg 0 else 0)) := fun h => by rw [if_pos h]; exact hok.out 0 h
        have HY : Hid (1 < k → kindQ ks (arg 1) = .ok (if 1 < k then kv ks arg 1 else 0)) := fun h => by rw [if_pos h]; exact hok.out 1 h
        have hx0 : k = 0 → (if 0 < k then kv ks arg 0 else 0) = 0 := fun h => by rw [if_neg (by omega)]
        have hy0 : k ≤ 1 → (if 1 < k then kv ks arg 1 else 0) = 0 := fun h => by rw [if_neg (by omega)]
        generalize (if 0 < k then kv ks arg 0 else 0) = x at *
        generalize (if 1 < k then kv ks arg 1 else 0) = y at *
        clear hok hlt hk
        have e0 : wr.cell? ⟨wc.heap.size, 0, none⟩ = some (.int .i64 x) := hKr.cell 0
        have e1 : wr.cell? ⟨wc.heap.size, 1, none⟩ = some (.int .i64 y) := hKr.cell 1
        obtain ⟨c0, c1, c2, c3, c4, c5⟩ := hAr.six
        clear hKr h78 h12
        go_upto_region 12 with fail
        go_cut [11] (fun v wx => v = .bool (sameB x y) ∧ wx = wr)
        case first =>
          clear HF HX HY hx0 hy0 hx hy hopc hcp hvg
          by_cases hxy : x = y
          · have HS : Hid (sameB x y = true) := Lib.hid (by unfold sameB; simp [hxy])
            have g1 : (x == y) = true := by simpa using hxy
            clear hxy
            go_wp2_with fail
            go_meet
            case rel => exact ⟨congrArg Value.bool HS.out.symm, rfl⟩
          have g1 : (x == y) = false := by simpa using hxy
          by_cases hx0 : x = 0
          · have HS : Hid (sameB x y = true) := Lib.hid (by unfold sameB; simp [hx0])
            have g2 : (x == 0) = true := by simpa using hx0
            clear hxy hx0
            go_wp2_with fail
            go_meet
            case rel => exact ⟨congrArg Value.bool HS.out.symm, rfl⟩
          have g2 : (x == 0) = false := by simpa using hx0
          have HS : Hid (sameB x y = (y == 0)) := Lib.hid (by
            unfold sameB
            rw [Bool.eq_iff_iff]
            simp [hxy, hx0])
          clear hxy hx0
          go_wp2_with fail
          go_meet
          case rel => exact ⟨congrArg Value.bool HS.out.symm, rfl⟩
        case rest =>
        obtain ⟨rfl, rfl⟩ := hcut
        have hkc : ∀ c : Int, countOf op = c → (k : Int) = c := fun c hc => by omega
        have HP : Hid (¬ op = 1 → ¬ op = 2 → ¬ op = 7 → ¬ op = 8 → k = 2 → kq = toQ (pairK op x y)) := fun n1 n2 n7 n8 hk2 => by
          have H1 := HF.out
          rw [if_neg n1, if_neg n2, if_neg n7, if_neg n8, HX.out (by omega), ex_bind, HY.out (by omega), ex_bind] at H1
          exact H1
        have H7 : Hid (op = 7 → k = 1 → kq = if truthK x = true then .ok 1 else .error 9) := fun h hk2 => by
          have H1 := HF.out
          rw [if_neg (by omega), if_neg (by omega), if_pos h, HX.out (by omega), ex_bind] at H1
          exact H1
        have H8 : Hid (op = 8 → k = 1 → kq = .ok 1) := fun h hk2 => by
          have H1 := HF.out
          rw [if_neg (by omega), if_neg (by omega), if_neg (by omega), if_pos h, HX.out (by omega)] at H1
          exact H1
        rcases hopc with rfl | rfl | rfl | rfl | rfl | rfl | rfl | rfl | rfl | rfl
        · -- Lit
          have HE := Lib.hid (HF.out.trans (if_pos rfl))
          clear HF HX HY hx0 hy0 hx hy hcp hkc
          go_wp2_with fail
          refine (hvg _).mono ?_
          rintro en w3 ⟨rfl, b3⟩
          obtain ⟨d0, d1, d2, d3, d4, d5⟩ := (hAr.below b3 hAr.lt).six
          have hb3 := below_in hbr b3
          cases hg : goodV ⟨vk, vn, vt⟩ with
          | false =>
            have HE2 := Lib.hid (HE.out.trans (if_neg (by rw [hg]; simp)))
            go_wp2_with fail
            refine bodyPost_ret (results_tmp2 rfl _ _ _) rfl ⟨?_, hb3⟩
            rw [HE2.out]; rfl
          | true =>
            have HE2 := Lib.hid (HE.out.trans (if_pos hg))
            go_wp2_with fail
            refine bodyPost_ret (results_tmp2 rfl _ _ _) rfl ⟨?_, hb3⟩
            rw [HE2.out]; rfl
        · -- Col
          have HE := Lib.hid ((HF.out.trans (if_neg (by decide))).trans (if_pos rfl))
          clear HF HX HY hx0 hy0 hx hy hcp hkc hvg
          unfold maxLen at hn
          by_cases hc0 : col < 0
          · have g : decide (col < 0) = true := by simpa using hc0
            have HE2 := Lib.hid (HE.out.trans (show colQ ks col = .error 4 by unfold colQ; rw [if_neg (by omega)]))
            clear HE hc0
            go_wp2_with fail
            refine bodyPost_ret (results_tmp2 rfl _ _ _) rfl ⟨?_, hbr⟩
            rw [HE2.out]; rfl
          have g : decide (col < 0) = false := by simpa using hc0
          by_cases hcn : col < (n : Int)
          · obtain ⟨q, rfl⟩ : ∃ q : Nat, col = q := ⟨col.toNat, by omega⟩
            obtain ⟨cb, coff, rfl, hlt, hcell⟩ := hcols.2 (by omega)
            have hcl := (hbr.cell (p := ⟨cb, coff + q * 6 + 1, none⟩) hlt).trans (hcell q (by omega))
            have HE2 := Lib.hid (HE.out.trans (show colQ ks q = .ok (ks.getD q 0) by unfold colQ; rw [if_pos (by rw [hcols.1]; omega)]; simp))
            generalize ks.getD q 0 = kk at *
            have g2 : decide ((n : Int) ≤ (q : Int)) = false := by simp; omega
            have hq1 : (q : Int) < (n : Int) := hcn
            clear HE hcell hcols hc0
            go_wp2_with fail
            refine bodyPost_ret (results_tmp2 rfl _ _ _) rfl ⟨?_, hbr⟩
            rw [HE2.out]; rfl
          · have g2 : decide ((n : Int) ≤ col) = true := by simp; omega
            have HE2 := Lib.hid (HE.out.trans (show colQ ks col = .error 4 by unfold colQ; rw [if_neg (by rw [hcols.1]; omega)]))
            clear HE hc0 hcn
            go_wp2_with fail
            refine bodyPost_ret (results_tmp2 rfl _ _ _) rfl ⟨?_, hbr⟩
            rw [HE2.out]; rfl
        · have HE := Lib.hid ((HP.out (by decide) (by decide) (by decide) (by decide) (by have := hkc 2 rfl; omega)).trans (pair_cmp (by decide) hx hy))
          clear HF HX HY hx0 hy0 hx hy hcp hkc hvg HP H7 H8
          generalize sameB x y = sb at *
          cases sb with
          | false =>
            go_wp2_with fail
            refine bodyPost_ret (results_tmp2 rfl _ _ _) rfl ⟨?_, hbr⟩
            rw [HE.out]; rfl
          | true =>
            go_wp2_with fail
            refine bodyPost_ret (results_tmp2 rfl _ _ _) rfl ⟨?_, hbr⟩
            rw [HE.out]; rfl
        · have HE := Lib.hid ((HP.out (by decide) (by decide) (by decide) (by decide) (by have := hkc 2 rfl; omega)).trans (pair_cmp (by decide) hx hy))
          clear HF HX HY hx0 hy0 hx hy hcp hkc hvg HP H7 H8
          generalize sameB x y = sb at *
          cases sb with
          | false =>
            go_wp2_with fail
            refine bodyPost_ret (results_tmp2 rfl _ _ _) rfl ⟨?_, hbr⟩
            rw [HE.out]; rfl
          | true =>
            go_wp2_with fail
            refine bodyPost_ret (results_tmp2 rfl _ _ _) rfl ⟨?_, hbr⟩
            rw [HE.out]; rfl
        · have HE := Lib.hid ((HP.out (by decide) (by decide) (by decide) (by decide) (by have := hkc 2 rfl; omega)).trans (pair_and (by decide) hx hy))
          clear HF HX HY hx0 hy0 hx hy hcp hkc hvg HP H7 H8
          generalize sameB x y = sb at *
          by_cases g1 : x ≤ 1
          · have g1' : decide ((1 : Int) < x) = false := by simp; omega
            by_cases g2 : y ≤ 1
            · have g2' : decide ((1 : Int) < y) = false := by simp; omega
              have HE2 := Lib.hid (HE.out.trans (if_pos ⟨g1, g2⟩))
              clear g1 g2 HE
              go_wp2_with fail
              refine bodyPost_ret (results_tmp2 rfl _ _ _) rfl ⟨?_, hbr⟩
              rw [HE2.out]; rfl
            · have g2' : decide ((1 : Int) < y) = true := by simp; omega
              have HE2 := Lib.hid (HE.out.trans (if_neg (fun h => g2 h.2)))
              clear g1 g2 HE
              go_wp2_with fail
              refine bodyPost_ret (results_tmp2 rfl _ _ _) rfl ⟨?_, hbr⟩
              rw [HE2.out]; rfl
          · have g1' : decide ((1 : Int) < x) = true := by simp; omega
            have HE2 := Lib.hid (HE.out.trans (if_neg (fun h => g1 h.1)))
            clear g1 HE
            go_wp2_with fail
            refine bodyPost_ret (results_tmp2 rfl _ _ _) rfl ⟨?_, hbr⟩
            rw [HE2.out]; rfl
        · have HE := Lib.hid ((HP.out (by decide) (by decide) (by decide) (by decide) (by have := hkc 2 rfl; omega)).trans (pair_and (by decide) hx hy))
          clear HF HX HY hx0 hy0 hx hy hcp hkc hvg HP H7 H8
          generalize sameB x y = sb at *
          by_cases g1 : x ≤ 1
          · have g1' : decide ((1 : Int) < x) = false := by simp; omega
            by_cases g2 : y ≤ 1
            · have g2' : decide ((1 : Int) < y) = false := by simp; omega
              have HE2 := Lib.hid (HE.out.trans (if_pos ⟨g1, g2⟩))
              clear g1 g2 HE
              go_wp2_with fail
              refine bodyPost_ret (results_tmp2 rfl _ _ _) rfl ⟨?_, hbr⟩
              rw [HE2.out]; rfl
            · have g2' : decide ((1 : Int) < y) = true := by simp; omega
              have HE2 := Lib.hid (HE.out.trans (if_neg (fun h => g2 h.2)))
              clear g1 g2 HE
              go_wp2_with fail
              refine bodyPost_ret (results_tmp2 rfl _ _ _) rfl ⟨?_, hbr⟩
              rw [HE2.out]; rfl
          · have g1' : decide ((1 : Int) < x) = true := by simp; omega
            have HE2 := Lib.hid (HE.out.trans (if_neg (fun h => g1 h.1)))
            clear g1 HE
            go_wp2_with fail
            refine bodyPost_ret (results_tmp2 rfl _ _ _) rfl ⟨?_, hbr⟩
            rw [HE2.out]; rfl
        · have hy1 := hy0 (by have := hkc 1 rfl; omega)
          have HE := Lib.hid (H7.out rfl (by have := hkc 1 rfl; omega))
          subst hy1
          clear HF HX HY hx0 hy0 hy hcp hkc hvg HP H7 H8
          generalize sameB x 0 = sb at *
          by_cases g1 : x ≤ 1
          · have g1' : decide ((1 : Int) < x) = false := by simp; omega
            have HE2 := Lib.hid (HE.out.trans (if_pos (by rw [truthK_iff]; omega)))
            clear g1 HE hx
            go_wp2_with fail
            refine bodyPost_ret (results_tmp2 rfl _ _ _) rfl ⟨?_, hbr⟩
            rw [HE2.out]; rfl
          · have g1' : decide ((1 : Int) < x) = true := by simp; omega
            have HE2 := Lib.hid (HE.out.trans (if_neg (by rw [truthK_iff]; omega)))
            clear g1 HE hx
            go_wp2_with fail
            refine bodyPost_ret (results_tmp2 rfl _ _ _) rfl ⟨?_, hbr⟩
            rw [HE2.out]; rfl
        · have HE := Lib.hid (H8.out rfl (by have := hkc 1 rfl; omega))
          clear HF HX HY hx0 hy0 hx hy hcp hkc hvg HP H7 H8
          generalize sameB x y = sb at *
          go_wp2_with fail
          refine bodyPost_ret (results_tmp2 rfl _ _ _) rfl ⟨?_, hbr⟩
          rw [HE.out]; rfl
        · have HE := Lib.hid ((HP.out (by decide) (by decide) (by decide) (by decide) (by have := hkc 2 rfl; omega)).trans (pair_num (by decide) hx hy))
          clear HF HX HY hx0 hy0 hx hy hcp hkc hvg HP H7 H8
          generalize sameB x y = sb at *
          cases sb with
          | false =>
            go_wp2_with fail
            refine bodyPost_ret (results_tmp2 rfl _ _ _) rfl ⟨?_, hbr⟩
            rw [HE.out]; rfl
          | true =>
            have HE1 := Lib.hid (HE.out.trans (if_pos rfl))
            clear HE
            have hmx : ∃ m, max x y = m ∧ ((x < y ∧ m = y) ∨ (¬ x < y ∧ m = x)) := ⟨_, rfl, by omega⟩
            obtain ⟨m, hm, hcase⟩ := hmx
            rw [hm] at HE1
            clear hm
            by_cases h3 : m = 3
            · have HE2 := Lib.hid (HE1.out.trans (if_pos h3))
              have g3 : (m == 3) = true := by simpa using h3
              clear HE1 h3
              rcases hcase with ⟨hlt, rfl⟩ | ⟨hlt, rfl⟩
              all_goals
                go_wp2_with fail
                refine bodyPost_ret (results_tmp2 rfl _ _ _) rfl ⟨?_, hbr⟩
                rw [HE2.out]; rfl
            · have HE2 := Lib.hid (HE1.out.trans (if_neg h3))
              have g3 : (m == 3) = false := by simpa using h3
              clear HE1 h3
              rcases hcase with ⟨hlt, rfl⟩ | ⟨hlt, rfl⟩
              all_goals
                go_wp2_with fail
                refine bodyPost_ret (results_tmp2 rfl _ _ _) rfl ⟨?_, hbr⟩
                rw [HE2.out]; rfl
        · have HE := Lib.hid ((HP.out (by decide) (by decide) (by decide) (by decide) (by have := hkc 2 rfl; omega)).trans (pair_num (by decide) hx hy))
          clear HF HX HY hx0 hy0 hx hy hcp hkc hvg HP H7 H8
          generalize sameB x y = sb at *
          cases sb with
          | false =>
            go_wp2_with fail
            refine bodyPost_ret (results_tmp2 rfl _ _ _) rfl ⟨?_, hbr⟩
            rw [HE.out]; rfl
          | true =>
            have HE1 := Lib.hid (HE.out.trans (if_pos rfl))
            clear HE
            have hmx : ∃ m, max x y = m ∧ ((x < y ∧ m = y) ∨ (¬ x < y ∧ m = x)) := ⟨_, rfl, by omega⟩
            obtain ⟨m, hm, hcase⟩ := hmx
            rw [hm] at HE1
            clear hm
            by_cases h3 : m = 3
            · have HE2 := Lib.hid (HE1.out.trans (if_pos h3))
              have g3 : (m == 3) = true := by simpa using h3
              clear HE1 h3
              rcases hcase with ⟨hlt, rfl⟩ | ⟨hlt, rfl⟩
              all_goals
                go_wp2_with fail
                refine bodyPost_ret (results_tmp2 rfl _ _ _) rfl ⟨?_, hbr⟩
                rw [HE2.out]; rfl
            · have HE2 := Lib.hid (HE1.out.trans (if_neg h3))
              have g3 : (m == 3) = false := by simpa using h3
              clear HE1 h3
              rcases hcase with ⟨hlt, rfl⟩ | ⟨hlt, rfl⟩
              all_goals
                go_wp2_with fail
                refine bodyPost_ret (results_tmp2 rfl _ _ _) rfl ⟨?_, hbr⟩
                rw [HE2.out]; rfl
end Go.Proofs.YtnhalfdddcjicaaGreat
