/- The walks of the deferred functions that recover, of finish, Kind and Eval. -/
import Derived.Test.YtfgmhilmjkpeeaaExI
import Derived.Test.YtfgmhilmjkpeeaaExH
import Derived.Defers
import Derived.Recover
namespace Go.Proofs.Ytfgmhilmjkpeeaa
open Go.RowKit
/-- What Kind hands back. -/
def EndKE (r : Option Int) (e : Ending) : Prop := match r with | some k => e = .returned (.tuple #[.int .i64 k, .int .i64 0]) | none => ∃ z : Int, z ≠ 0 ∧ e = .returned (.tuple #[.int .i64 0, .int .i64 z])
/-- What Eval hands back. -/
def EndVE (r : Option Vl) (e : Ending) : Prop := match r with | some k => e = .returned (.tuple #[k.val, .int .i64 0]) | none => ∃ z : Int, z ≠ 0 ∧ e = .returned (.tuple #[nullV.val, .int .i64 z])
def kindX (ks : List Int) (e : Ex) : Option Int := if leftE e 24 8 < 0 then none else kindE ks e
def valX (vs : List Vl) (e : Ex) : Option Vl := if leftE e 24 8 < 0 then none else valE vs e

theorem as_ab (v : Value) (w : World) : (Instr.typeAssert (.iface 63 v) 20 63 true).run Try.prog w = .ok (.tuple #[v, .bool true]) w := by kernel_rfl
theorem catchI_ab (p : Addr) (r x : Int) (older : List PanicEntry) (w : World) (hc : w.cell? p = some (.int .i64 x)) (hz : w.frozen? p = false) :
    CallsD Try.prog 30 #[.pointer (some p)] (.panicking ({ v := .iface 63 (.int .i64 r), recovered := false } :: older)) w fun e u' w' =>
      e = .returned (.tuple #[]) ∧ u' = .panicking ({ v := .iface 63 (.int .i64 r), recovered := true } :: older) ∧ w' = w.setCell p (.int .i64 r) := by
  have hta := as_ab
  refine callsD_of_wpS Try.func30 rfl fun c₀ cs hu => ?_
  apply wpS_seq
  apply wpS_region
  simp [wpOpsS, go_sem, recoverD, hu, Try.ntmps30, Exit.thenS]
  refine wpS_of_wp ?_
  change Code.wp _ _ _ { tmps := #[.pointer (some p), undef, undef, undef, .iface 63 (.int .i64 r), undef, undef, undef, undef, undef, undef], defers := [] } _
  go_wp2_with fail
  simp [bodyPostS, results, Try.results30]
theorem catchI_idle (p : Addr) (w : World) :
    CallsD Try.prog 30 #[.pointer (some p)] .returning w fun e u' w' => e = .returned (.tuple #[]) ∧ u' = .returning ∧ w' = w := by
  refine callsD_of_wpS Try.func30 rfl fun c₀ cs hu => ?_
  apply wpS_seq
  apply wpS_region
  simp [wpOpsS, go_sem, recoverD, hu, Try.ntmps30, Exit.thenS]
  refine wpS_of_wp ?_
  go_wp2
  cases c₀
  simp_all [bodyPostS, results, Try.results30]
theorem finish_int (cap : Array Value) (r : Option Int) (w : World) (hG : ∀ w1 : World, Below w.heap.size w w1 → Calls Try.prog 18 cap w1 fun e w' => EndK r e ∧ Below w1.heap.size w1 w') :
    Calls Try.prog 17 #[.func (.func 18) #[] cap] w fun e w' => EndKE r e ∧ Below w.heap.size w w' := by
  have hmf : ∀ (fn : Fn) (first cap : Array Value) (w : World), (Instr.makeFunc fn first cap).run Try.prog w = .ok (.func fn first cap) w := fun _ _ _ _ => rfl
  have hb := below_box w (.cells #[.int .i64 0] 34)
  have hA := At.fresh w 34 #[.int .i64 0]
  go_enter_defers Try.func17, Try.ntmps17
  go_wp2_with fail
  refine (hG _ hb).mono ?_
  intro e w2 he
  obtain ⟨he, b2⟩ := he
  have hb2 := below_in hb b2
  have hA2 := hA.below b2 hA.lt
  have hc : w2.cell? ⟨w.heap.size, 0, none⟩ = some (.int .i64 0) := hA2.cell 0
  have hz : w2.frozen? ⟨w.heap.size, 0, none⟩ = false := hA2.unfrozen 0
  cases r with
  | none =>
    obtain ⟨z, hz0, rfl⟩ := he
    unfold ab
    go_wp2_with fail
    refine leaves_cons (f := 30) (args := #[.pointer (some ⟨w.heap.size, 0, none⟩)]) (by simp) (by simp [go_sem]) ?_
    refine (catchI_ab ⟨w.heap.size, 0, none⟩ z 0 [] _ hc hz).mono ?_
    rintro e u' w'' ⟨rfl, rfl, rfl⟩
    have hcell : (w2.setCell ⟨w.heap.size, 0, none⟩ (.int .i64 z)).cell? ⟨w.heap.size, 0, none⟩ = some (.int .i64 z) := (hA2.put 0 _).cell 0
    simp [Leaves, settle, results, Try.results17, go_sem, hcell]
    exact ⟨⟨z, hz0, rfl⟩, hb2.setCell (p := ⟨w.heap.size, 0, none⟩) (Nat.le_refl _) _⟩
  | some k =>
    obtain rfl := he
    go_wp2_with fail
    refine leaves_cons (f := 30) (args := #[.pointer (some ⟨w.heap.size, 0, none⟩)]) (by simp) (by simp [go_sem]) ?_
    refine (catchI_idle ⟨w.heap.size, 0, none⟩ _).mono ?_
    rintro e u' w'' ⟨rfl, rfl, rfl⟩
    have hcell : (w2.setCell ⟨w.heap.size, 0, none⟩ (.int .i64 0)).cell? ⟨w.heap.size, 0, none⟩ = some (.int .i64 0) := (hA2.put 0 _).cell 0
    simp [Leaves, settle, results, Try.results17, go_sem, hcell]
    exact ⟨rfl, hb2.setCell (p := ⟨w.heap.size, 0, none⟩) (Nat.le_refl _) _⟩
theorem catchV_ab (p : Addr) (r x : Int) (older : List PanicEntry) (w : World) (hc : w.cell? p = some (.int .i64 x)) (hz : w.frozen? p = false) :
    CallsD Try.prog 37 #[.pointer (some p)] (.panicking ({ v := .iface 63 (.int .i64 r), recovered := false } :: older)) w fun e u' w' =>
      e = .returned (.tuple #[]) ∧ u' = .panicking ({ v := .iface 63 (.int .i64 r), recovered := true } :: older) ∧ w' = w.setCell p (.int .i64 r) := by
  have hta := as_ab
  refine callsD_of_wpS Try.func37 rfl fun c₀ cs hu => ?_
  apply wpS_seq
  apply wpS_region
  simp [wpOpsS, go_sem, recoverD, hu, Try.ntmps37, Exit.thenS]
  refine wpS_of_wp ?_
  change Code.wp _ _ _ { tmps := #[.pointer (some p), undef, undef, undef, .iface 63 (.int .i64 r), undef, undef, undef, undef, undef, undef], defers := [] } _
  go_wp2_with fail
  simp [bodyPostS, results, Try.results37]
theorem catchV_idle (p : Addr) (w : World) :
    CallsD Try.prog 37 #[.pointer (some p)] .returning w fun e u' w' => e = .returned (.tuple #[]) ∧ u' = .returning ∧ w' = w := by
  refine callsD_of_wpS Try.func37 rfl fun c₀ cs hu => ?_
  apply wpS_seq
  apply wpS_region
  simp [wpOpsS, go_sem, recoverD, hu, Try.ntmps37, Exit.thenS]
  refine wpS_of_wp ?_
  go_wp2
  cases c₀
  simp_all [bodyPostS, results, Try.results37]
theorem finish_val (cap : Array Value) (r : Option Vl) (w : World) (hG : ∀ w1 : World, Below w.heap.size w w1 → Calls Try.prog 21 cap w1 fun e w' => EndV r e ∧ Below w1.heap.size w1 w') :
    Calls Try.prog 20 #[.func (.func 21) #[] cap] w fun e w' => EndVE r e ∧ Below w.heap.size w w' := by
  have hmf : ∀ (fn : Fn) (first cap : Array Value) (w : World), (Instr.makeFunc fn first cap).run Try.prog w = .ok (.func fn first cap) w := fun _ _ _ _ => rfl
  have hZ0 := At.fresh w 23 z3
  have hb0 := below_box w (.cells z3 23)
  have hb1 := below_box (w.alloc (.cells z3 23)) (.cells #[.int .i64 0] 34)
  have hA := At.fresh (w.alloc (.cells z3 23)) 34 #[.int .i64 0]
  have hsz : (w.alloc (.cells z3 23)).heap.size = w.heap.size + 1 := by simp
  have hZ := hZ0.below hb1 hZ0.lt
  have hb := below_in hb0 hb1
  rw [hsz] at hA
  clear hZ0 hb0 hb1 hsz
  unfold z3 at hZ hb hA
  go_enter_defers Try.func20, Try.ntmps20
  go_wp2_with fail
  refine (hG _ hb).mono ?_
  intro e w2 he
  obtain ⟨he, b2⟩ := he
  have hb2 := below_in hb b2
  have hA2 := hA.below b2 hA.lt
  have hZ2 := hZ.below b2 hZ.lt
  have hc : w2.cell? ⟨w.heap.size + 1, 0, none⟩ = some (.int .i64 0) := hA2.cell 0
  have hz : w2.frozen? ⟨w.heap.size + 1, 0, none⟩ = false := hA2.unfrozen 0
  cases r with
  | none =>
    obtain ⟨z, hz0, rfl⟩ := he
    unfold ab
    go_wp2_with fail
    refine leaves_cons (f := 37) (args := #[.pointer (some ⟨w.heap.size + 1, 0, none⟩)]) (by simp) (by simp [go_sem]) ?_
    refine (catchV_ab ⟨w.heap.size + 1, 0, none⟩ z 0 [] _ hc hz).mono ?_
    rintro e u' w'' ⟨rfl, rfl, rfl⟩
    have hcell : (w2.setCell ⟨w.heap.size + 1, 0, none⟩ (.int .i64 z)).cell? ⟨w.heap.size + 1, 0, none⟩ = some (.int .i64 z) := (hA2.put 0 _).cell 0
    obtain ⟨c0, c1, c2, -, -, -⟩ := (hZ2.elsewhere (p := ⟨w.heap.size + 1, 0, none⟩) (by simp) (.int .i64 z)).three
    simp [Leaves, settle, results, Try.results20, go_sem, hcell, c0, c1, c2]
    exact ⟨⟨z, hz0, rfl⟩, hb2.setCell (p := ⟨w.heap.size + 1, 0, none⟩) (Nat.le_succ _) _⟩
  | some k =>
    obtain rfl := he
    obtain ⟨z0, z1, z2, g0, g1, g2⟩ := hZ2.three
    obtain ⟨k0, k1, k2⟩ := k
    simp only [Vl.val]
    go_wp2_with fail
    refine leaves_cons (f := 37) (args := #[.pointer (some ⟨w.heap.size + 1, 0, none⟩)]) (by simp) (by simp [go_sem]) ?_
    refine (catchV_idle ⟨w.heap.size + 1, 0, none⟩ _).mono ?_
    rintro e u' w'' ⟨rfl, rfl, rfl⟩
    have hW : Below w.heap.size w ((((w2.setCell ⟨w.heap.size, 0, none⟩ (.int .i64 k0)).setCell ⟨w.heap.size, 1, none⟩ (.int .i64 k1)).setCell ⟨w.heap.size, 2, none⟩ (.string ⟨k2.toArray⟩)).setCell ⟨w.heap.size + 1, 0, none⟩ (.int .i64 0)) :=
      (below_set3 hb2 (Nat.le_refl _) _ _ _).setCell (p := ⟨w.heap.size + 1, 0, none⟩) (Nat.le_succ _) _
    have hZ3 := ((((hZ2.put 0 (.int .i64 k0)).put 1 (.int .i64 k1)).put 2 (.string ⟨k2.toArray⟩)).elsewhere (p := ⟨w.heap.size + 1, 0, none⟩) (by simp) (.int .i64 0)).three
    have hA3 := ((((hA2.elsewhere (p := ⟨w.heap.size, 0, none⟩) (by simp) (.int .i64 k0)).elsewhere (p := ⟨w.heap.size, 1, none⟩) (by simp) (.int .i64 k1)).elsewhere (p := ⟨w.heap.size, 2, none⟩) (by simp) (.string ⟨k2.toArray⟩)).put 0 (.int .i64 0)).cell 0
    generalize (((w2.setCell ⟨w.heap.size, 0, none⟩ (.int .i64 k0)).setCell ⟨w.heap.size, 1, none⟩ (.int .i64 k1)).setCell ⟨w.heap.size, 2, none⟩ (.string ⟨k2.toArray⟩)).setCell ⟨w.heap.size + 1, 0, none⟩ (.int .i64 0) = W at *
    obtain ⟨c0, c1, c2, -, -, -⟩ := hZ3
    simp at hA3
    simp [Leaves, settle, results, Try.results20, go_sem, hA3, c0, c1, c2]
    exact ⟨rfl, hW⟩

theorem kindL_any (e : Ex) (A : Option Addr) (n cap : Nat) (ks : List Int) (g h : Nat) (w : World) (hin : InE w e) (hc : Cols w A n ks) (hn : n ≤ maxLen) (hE : CellsE w g 0 e) (hS : w.cell? ⟨h, 0, none⟩ = some (.slice A n cap)) :
    Calls Try.prog 18 #[.pointer (some ⟨g, 0, none⟩), .pointer (some ⟨h, 0, none⟩)] w fun en w' => EndK (kindE ks e) en ∧ Below w.heap.size w w' := by
  have hk := kindOf_any e w A n cap ks hin hc hn
  generalize kindE ks e = r at hk ⊢
  unfold Ex.val at hk
  obtain ⟨c0, c1, c2, c3, c4, c5⟩ := hE
  simp only [Nat.zero_add] at c1 c2 c3 c4 c5
  go_enter Try.func18, Try.ntmps18
  go_wp2_with fail
  refine hk.mono ?_
  intro en w2 he
  obtain ⟨he, b2⟩ := he
  cases r with
  | none =>
    obtain ⟨z, hz0, rfl⟩ := he
    go_wp2_with fail
    exact ⟨rfl, ⟨z, hz0, rfl⟩, b2⟩
  | some k =>
    obtain rfl := he
    go_wp2_with fail
    go_ret
    exact ⟨rfl, b2⟩

theorem valL_any (e : Ex) (A : Option Addr) (n cap : Nat) (vs : List Vl) (g h : Nat) (w : World) (hin : InE w e) (hc : Vals w A n vs) (hn : n ≤ maxLen) (hg : g < w.heap.size) (hh : h < w.heap.size) (hE : CellsE w g 0 e) (hS : w.cell? ⟨h, 0, none⟩ = some (.slice A n cap)) :
    Calls Try.prog 21 #[.pointer (some ⟨g, 0, none⟩), .pointer (some ⟨h, 0, none⟩)] w fun en w' => EndV (valE vs e) en ∧ Below w.heap.size w w' := by
  have hk := fun w1 (b1 : Below w.heap.size w w1) => valueOf_any e w1 A n cap vs (hin.below b1) (hc.below b1) hn
  generalize valE vs e = r at hk ⊢
  unfold Ex.val at hk
  have hb := below_box w (.cells z3 23)
  have hZ := At.fresh w 23 z3
  unfold z3 at hb hZ
  obtain ⟨c0, c1, c2, c3, c4, c5⟩ := hE
  simp only [Nat.zero_add] at c1 c2 c3 c4 c5
  have n1 : ¬ g = w.heap.size := by omega
  have n2 : ¬ h = w.heap.size := by omega
  go_enter Try.func21, Try.ntmps21
  go_wp2_with fail
  refine (hk _ hb).mono ?_
  intro en w2 he
  obtain ⟨he, b2⟩ := he
  have hb2 := below_in hb b2
  obtain ⟨z0, z1, z2, g0, g1, g2⟩ := (hZ.below b2 hZ.lt).three
  cases r with
  | none =>
    obtain ⟨z, hz0, rfl⟩ := he
    go_wp2_with fail
    exact ⟨rfl, ⟨z, hz0, rfl⟩, hb2⟩
  | some k =>
    obtain rfl := he
    obtain ⟨k0, k1, k2⟩ := k
    simp only [Vl.val]
    go_wp2_with fail
    refine bodyPost_ret (v := (Vl.mk k0 k1 k2).val) (by simp [results, Try.results21, go_sem, Vl.val, z0, z1, z2]) rfl ⟨rfl, below_set3 hb2 (by omega) _ _ _⟩

theorem cellsE_fresh (e : Ex) (w : World) : CellsE (w.alloc (.cells #[.int .i64 e.op, .int .i64 e.col, .int .i64 e.v.kind, .int .i64 e.v.num, .string ⟨e.v.text.toArray⟩, .slice e.A e.n e.cap] 26)) w.heap.size 0 e := by
  obtain ⟨c0, c1, c2, c3, c4, c5⟩ := (At.fresh w 26 #[.int .i64 e.op, .int .i64 e.col, .int .i64 e.v.kind, .int .i64 e.v.num, .string ⟨e.v.text.toArray⟩, .slice e.A e.n e.cap]).six
  exact ⟨c0, by rw [Nat.zero_add]; exact c1, by rw [Nat.zero_add]; exact c2, by rw [Nat.zero_add]; exact c3, by rw [Nat.zero_add]; exact c4, by rw [Nat.zero_add]; exact c5⟩

theorem Kind_any (e : Ex) (A : Option Addr) (n cap : Nat) (ks : List Int) (w : World) (hin : InE w e) (hc : Cols w A n ks) (hn : n ≤ maxLen) :
    Calls Try.prog 9 #[e.val, .slice A n cap] w fun en w' => EndKE (kindX ks e) en ∧ Below w.heap.size w w' := by
  have hmf : ∀ (fn : Fn) (first cap : Array Value) (w : World), (Instr.makeFunc fn first cap).run Try.prog w = .ok (.func fn first cap) w := fun _ _ _ _ => rfl
  have hE0 := cellsE_fresh e w
  have hb0 := below_box w (.cells #[.int .i64 e.op, .int .i64 e.col, .int .i64 e.v.kind, .int .i64 e.v.num, .string ⟨e.v.text.toArray⟩, .slice e.A e.n e.cap] 26)
  have hlt : w.heap.size < (w.alloc (.cells #[.int .i64 e.op, .int .i64 e.col, .int .i64 e.v.kind, .int .i64 e.v.num, .string ⟨e.v.text.toArray⟩, .slice e.A e.n e.cap] 26)).heap.size := by simp
  have hsz : (w.alloc (.cells #[.int .i64 e.op, .int .i64 e.col, .int .i64 e.v.kind, .int .i64 e.v.num, .string ⟨e.v.text.toArray⟩, .slice e.A e.n e.cap] 26)).heap.size = w.heap.size + 1 := by simp
  have hS0 := At.fresh (w.alloc (.cells #[.int .i64 e.op, .int .i64 e.col, .int .i64 e.v.kind, .int .i64 e.v.num, .string ⟨e.v.text.toArray⟩, .slice e.A e.n e.cap] 26)) 27 #[.slice A n cap]
  have hb1 := below_box (w.alloc (.cells #[.int .i64 e.op, .int .i64 e.col, .int .i64 e.v.kind, .int .i64 e.v.num, .string ⟨e.v.text.toArray⟩, .slice e.A e.n e.cap] 26)) (.cells #[.slice A n cap] 27)
  have hE1 := hE0.below hb1 hlt
  have hb := below_in hb0 hb1
  rw [hsz] at hS0
  clear hb0 hb1 hE0
  generalize hW : (w.alloc (.cells #[.int .i64 e.op, .int .i64 e.col, .int .i64 e.v.kind, .int .i64 e.v.num, .string ⟨e.v.text.toArray⟩, .slice e.A e.n e.cap] 26)).alloc (.cells #[.slice A n cap] 27) = W at hb hS0 hE1
  have hl := isLong_any e W (hin.below hb)
  have H : Hid (kindX ks e = if leftE e 24 8 < 0 then none else kindE ks e) := rfl
  generalize kindX ks e = kx at H ⊢
  have hgt : w.heap.size < W.heap.size := by have := hS0.lt; omega
  have hfin := fun w3 (b3 : Below W.heap.size W w3) => finish_int #[.pointer (some ⟨w.heap.size, 0, none⟩), .pointer (some ⟨w.heap.size + 1, 0, none⟩)] (kindE ks e) w3 (fun w4 b4 =>
    kindL_any e A n cap ks w.heap.size (w.heap.size + 1) w4 (hin.below (below_in hb (below_in b3 b4))) (hc.below (below_in hb (below_in b3 b4))) hn (hE1.below (below_in b3 b4) hgt) ((hS0.below (below_in b3 b4) hS0.lt).cell 0))
  obtain ⟨c0, c1, c2, c3, c4, c5⟩ := hE1
  simp only [Nat.zero_add] at c1 c2 c3 c4 c5
  unfold Ex.val at *
  go_enter Try.func9, Try.ntmps9
  go_wp2_with fail
  refine hl.mono ?_
  rintro en w3 ⟨rfl, b3⟩
  have hb3 := below_in hb b3
  by_cases hlong : leftE e 24 8 < 0
  · rw [if_pos hlong] at H
    have hd : decide (leftE e 24 8 < 0) = true := by simpa using hlong
    rw [hd]
    clear hd hlong
    go_wp2_with fail
    refine bodyPost_ret (results_tmp2 rfl _ _ _) rfl ⟨by rw [H.out]; exact ⟨3, by decide, rfl⟩, hb3⟩
  · rw [if_neg hlong] at H
    have hd : decide (leftE e 24 8 < 0) = false := by simpa using hlong
    rw [hd]
    clear hd hlong
    go_wp2_with fail
    refine (hfin _ b3).mono ?_
    intro en w4 he
    obtain ⟨he, b4⟩ := he
    have hb4 := below_in hb3 b4
    generalize kindE ks e = r at he H
    cases r with
    | none =>
      obtain ⟨z, hz0, rfl⟩ := he
      go_wp2_with fail
      refine bodyPost_ret (results_tmp2 rfl _ _ _) rfl ⟨by rw [H.out]; exact ⟨z, hz0, rfl⟩, hb4⟩
    | some k =>
      obtain rfl := he
      go_wp2_with fail
      refine bodyPost_ret (results_tmp2 rfl _ _ _) rfl ⟨by rw [H.out]; rfl, hb4⟩

theorem Eval_any (e : Ex) (A : Option Addr) (n cap : Nat) (vs : List Vl) (w : World) (hin : InE w e) (hc : Vals w A n vs) (hn : n ≤ maxLen) :
    Calls Try.prog 10 #[e.val, .slice A n cap] w fun en w' => EndVE (valX vs e) en ∧ Below w.heap.size w w' := by
  have hmf : ∀ (fn : Fn) (first cap : Array Value) (w : World), (Instr.makeFunc fn first cap).run Try.prog w = .ok (.func fn first cap) w := fun _ _ _ _ => rfl
  have hE0 := cellsE_fresh e w
  have hb0 := below_box w (.cells #[.int .i64 e.op, .int .i64 e.col, .int .i64 e.v.kind, .int .i64 e.v.num, .string ⟨e.v.text.toArray⟩, .slice e.A e.n e.cap] 26)
  have hlt : w.heap.size < (w.alloc (.cells #[.int .i64 e.op, .int .i64 e.col, .int .i64 e.v.kind, .int .i64 e.v.num, .string ⟨e.v.text.toArray⟩, .slice e.A e.n e.cap] 26)).heap.size := by simp
  have hsz : (w.alloc (.cells #[.int .i64 e.op, .int .i64 e.col, .int .i64 e.v.kind, .int .i64 e.v.num, .string ⟨e.v.text.toArray⟩, .slice e.A e.n e.cap] 26)).heap.size = w.heap.size + 1 := by simp
  have hS0 := At.fresh (w.alloc (.cells #[.int .i64 e.op, .int .i64 e.col, .int .i64 e.v.kind, .int .i64 e.v.num, .string ⟨e.v.text.toArray⟩, .slice e.A e.n e.cap] 26)) 28 #[.slice A n cap]
  have hb1 := below_box (w.alloc (.cells #[.int .i64 e.op, .int .i64 e.col, .int .i64 e.v.kind, .int .i64 e.v.num, .string ⟨e.v.text.toArray⟩, .slice e.A e.n e.cap] 26)) (.cells #[.slice A n cap] 28)
  have hE1 := hE0.below hb1 hlt
  have hb := below_in hb0 hb1
  rw [hsz] at hS0
  clear hb0 hb1 hE0
  generalize hU : (w.alloc (.cells #[.int .i64 e.op, .int .i64 e.col, .int .i64 e.v.kind, .int .i64 e.v.num, .string ⟨e.v.text.toArray⟩, .slice e.A e.n e.cap] 26)).alloc (.cells #[.slice A n cap] 28) = U at hb hS0 hE1
  have hgU : w.heap.size < U.heap.size := by have := hS0.lt; omega
  have hsU : U.heap.size = w.heap.size + 1 + 1 := by rw [← hU]; simp
  have hbU := below_box U (.cells z3 23)
  have hZ := At.fresh U 23 z3
  have hS0 := hS0.below hbU hS0.lt
  have hE1 := hE1.below hbU hgU
  have hb := below_in hb hbU
  rw [hsU] at hZ
  clear hbU
  unfold z3 at hZ hS0 hE1 hb
  generalize hW : U.alloc (.cells #[.int .i64 0, .int .i64 0, .string ⟨#[]⟩] 23) = W at hb hS0 hE1 hZ
  rw [← hU] at hW
  clear hU hgU hsU
  have hl := isLong_any e W (hin.below hb)
  have H : Hid (valX vs e = if leftE e 24 8 < 0 then none else valE vs e) := rfl
  generalize valX vs e = kx at H ⊢
  have hgt : w.heap.size < W.heap.size := by have := hS0.lt; omega
  have hfin := fun w3 (b3 : Below W.heap.size W w3) => finish_val #[.pointer (some ⟨w.heap.size, 0, none⟩), .pointer (some ⟨w.heap.size + 1, 0, none⟩)] (valE vs e) w3 (fun w4 b4 =>
    valL_any e A n cap vs w.heap.size (w.heap.size + 1) w4 (hin.below (below_in hb (below_in b3 b4))) (hc.below (below_in hb (below_in b3 b4))) hn (Nat.lt_of_lt_of_le hgt (below_in b3 b4).size) (Nat.lt_of_lt_of_le hS0.lt (below_in b3 b4).size) (hE1.below (below_in b3 b4) hgt) ((hS0.below (below_in b3 b4) hS0.lt).cell 0))
  obtain ⟨c0, c1, c2, c3, c4, c5⟩ := hE1
  simp only [Nat.zero_add] at c1 c2 c3 c4 c5
  unfold Ex.val at *
  go_enter Try.func10, Try.ntmps10
  go_wp2_with fail
  refine hl.mono ?_
  rintro en w3 ⟨rfl, b3⟩
  have hb3 := below_in hb b3
  have hZ3 := hZ.below b3 hZ.lt
  by_cases hlong : leftE e 24 8 < 0
  · rw [if_pos hlong] at H
    have hd : decide (leftE e 24 8 < 0) = true := by simpa using hlong
    rw [hd]
    clear hd hlong
    obtain ⟨z0, z1, z2, g0, g1, g2⟩ := hZ3.three
    go_wp2_with fail
    refine bodyPost_ret (v := .tuple #[nullV.val, .int .i64 3]) (by simp [results, Try.results10, go_sem, Vl.val, nullV, z0, z1, z2]) rfl ⟨by rw [H.out]; exact ⟨3, by decide, rfl⟩, below_set3 hb3 (by omega) _ _ _⟩
  · rw [if_neg hlong] at H
    have hd : decide (leftE e 24 8 < 0) = false := by simpa using hlong
    rw [hd]
    clear hd hlong
    go_wp2_with fail
    refine (hfin _ b3).mono ?_
    intro en w4 he
    obtain ⟨he, b4⟩ := he
    have hb4 := below_in hb3 b4
    obtain ⟨z0, z1, z2, g0, g1, g2⟩ := (hZ3.below b4 hZ3.lt).three
    generalize valE vs e = r at he H
    cases r with
    | none =>
      obtain ⟨z, hz0, rfl⟩ := he
      simp only [Vl.val, nullV]
      go_wp2_with fail
      refine bodyPost_ret (v := .tuple #[nullV.val, .int .i64 z]) (by simp [results, Try.results10, go_sem, Vl.val, nullV, z0, z1, z2]) rfl ⟨by rw [H.out]; exact ⟨z, hz0, rfl⟩, below_set3 hb4 (by omega) _ _ _⟩
    | some k =>
      obtain rfl := he
      obtain ⟨k0, k1, k2⟩ := k
      simp only [Vl.val]
      go_wp2_with fail
      refine bodyPost_ret (v := .tuple #[(Vl.mk k0 k1 k2).val, .int .i64 0]) (by simp [results, Try.results10, go_sem, Vl.val, z0, z1, z2]) rfl ⟨by rw [H.out]; rfl, below_set3 hb4 (by omega) _ _ _⟩
end Go.Proofs.Ytfgmhilmjkpeeaa
