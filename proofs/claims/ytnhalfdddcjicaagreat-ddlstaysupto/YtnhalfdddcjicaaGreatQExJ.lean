/- The walks of the deferred functions that recover, of finish, Kind and Eval. -/
import Derived.Test.YtnhalfdddcjicaaGreatQJah
import Derived.Test.YtnhalfdddcjicaaGreatQJaj
import Derived.Defers
import Derived.Recover
namespace Go.Proofs.YtnhalfdddcjicaaGreat
open Go.RowKit
/-- What Kind hands back. -/
def EndKE (r : Option Int) (e : Ending) : Prop := match r with | some k => e = .returned (.tuple #[.int .i64 k, .int .i64 0]) | none => ∃ z : Int, z ≠ 0 ∧ e = .returned (.tuple #[.int .i64 0, .int .i64 z])
/-- What Eval hands back. -/
def EndVE (r : Option Vl) (e : Ending) : Prop := match r with | some k => e = .returned (.tuple #[k.val, .int .i64 0]) | none => ∃ z : Int, z ≠ 0 ∧ e = .returned (.tuple #[nullV.val, .int .i64 z])
def kindX (ks : List Int) (e : Ex) : Option Int := if leftE e 24 8 < 0 then none else kindE ks e
def valX (vs : List Vl) (e : Ex) : Option Vl := if leftE e 24 8 < 0 then none else valE vs e

theorem as_ab (v : Value) (w : World) : (Instr.typeAssert (.iface 161 v) 20 161 true).run Tryz.prog w = .ok (.tuple #[v, .bool true]) w := by kernel_rfl
theorem catchI_ab (p : Addr) (r x : Int) (older : List PanicEntry) (w : World) (hc : w.cell? p = some (.int .i64 x)) (hz : w.frozen? p = false) :
    CallsD Tryz.prog 128 #[.pointer (some p)] (.panicking ({ v := .iface 161 (.int .i64 r), recovered := false } :: older)) w fun e u' w' =>
      e = .returned (.tuple #[]) ∧ u' = .panicking ({ v := .iface 161 (.int .i64 r), recovered := true } :: older) ∧ w' = w.setCell p (.int .i64 r) := by
  have hta := as_ab
  refine callsD_of_wpS Tryz.func128 rfl fun c₀ cs hu => ?_
  apply wpS_seq
  apply wpS_region
  simp [wpOpsS, go_sem, recoverD, hu, Tryz.ntmps128, Exit.thenS]
  refine wpS_of_wp ?_
  change Code.wp _ _ _ { tmps := #[.pointer (some p), undef, undef, undef, .iface 161 (.int .i64 r), undef, undef, undef, undef, undef, undef], defers := [] } _
  go_wp2_with fail
  simp [bodyPostS, results, Tryz.results128]
theorem catchI_idle (p : Addr) (w : World) :
    CallsD Tryz.prog 128 #[.pointer (some p)] .returning w fun e u' w' => e = .returned (.tuple #[]) ∧ u' = .returning ∧ w' = w := by
  refine callsD_of_wpS Tryz.func128 rfl fun c₀ cs hu => ?_
  apply wpS_seq
  apply wpS_region
  simp [wpOpsS, go_sem, recoverD, hu, Tryz.ntmps128, Exit.thenS]
  refine wpS_of_wp ?_
  go_wp2
  cases c₀
  simp_all [bodyPostS, results, Tryz.results128]
theorem finish_int (cap : Array Value) (r : Option Int) (w : World) (hG : ∀ w1 : World, Below w.heap.size w w1 → Calls Tryz.prog 117 cap w1 fun e w' => EndK r e ∧ Below w1.heap.size w1 w') :
    Calls Tryz.prog 116 #[.func (.func 117) #[] cap] w fun e w' => EndKE r e ∧ Below w.heap.size w w' := by
  have hmf : ∀ (fn : Fn) (first cap : Array Value) (w : World), (Instr.makeFunc fn first cap).run Tryz.prog w = .ok (.func fn first cap) w := fun _ _ _ _ => rfl
  have hb := below_box w (.cells #[.int .i64 0] 38)
  have hA := At.fresh w 38 #[.int .i64 0]
  go_enter_defers Tryz.func116, Tryz.ntmps116
  go_wp2_with fail
  refine (hG _ hb).mono ?_
  intro e w2 he
  obtain ⟨he, b2⟩ := he
  have hb2 := below_in hb b2
  have hA2 := hA.below b2 hA.lt
  have hc : w2.cell? ⟨w.heap.size, 0, none⟩ = some (.int .i64 0) := hA2.cell 0
  have hz : w2.frozen? ⟨w.heap.size, 0, none⟩ = false := hA2.unfrozen 0
  cases r with
  | none =>
    obtain ⟨z, hz0, rfl⟩ := he
    unfold ab
    go_wp2_with fail
    refine leaves_cons (f := 128) (args := #[.pointer (some ⟨w.heap.size, 0, none⟩)]) (by simp) (by simp [go_sem]) ?_
    refine (catchI_ab ⟨w.heap.size, 0, none⟩ z 0 [] _ hc hz).mono ?_
    rintro e u' w'' ⟨rfl, rfl, rfl⟩
    have hcell : (w2.setCell ⟨w.heap.size, 0, none⟩ (.int .i64 z)).cell? ⟨w.heap.size, 0, none⟩ = some (.int .i64 z) := (hA2.put 0 _).cell 0
    simp [Leaves, settle, results, Tryz.results116, go_sem, hcell]
    exact ⟨⟨z, hz0, rfl⟩, hb2.setCell (p := ⟨w.heap.size, 0, none⟩) (Nat.le_refl _) _⟩
  | some k =>
    obtain rfl := he
    go_wp2_with fail
    refine leaves_cons (f := 128) (args := #[.pointer (some ⟨w.heap.size, 0, none⟩)]) (by simp) (by simp [go_sem]) ?_
    refine (catchI_idle ⟨w.heap.size, 0, none⟩ _).mono ?_
    rintro e u' w'' ⟨rfl, rfl, rfl⟩
    have hcell : (w2.setCell ⟨w.heap.size, 0, none⟩ (.int .i64 0)).cell? ⟨w.heap.size, 0, none⟩ = some (.int .i64 0) := (hA2.put 0 _).cell 0
    simp [Leaves, settle, results, Tryz.results116, go_sem, hcell]
    exact ⟨rfl, hb2.setCell (p := ⟨w.heap.size, 0, none⟩) (Nat.le_refl _) _⟩
theorem kindL_any (e : Ex) (A : Option Addr) (n cap : Nat) (ks : List Int) (g h : Nat) (w : World) (hin : InE w e) (hc : Cols w A n ks) (hn : n ≤ maxLen) (hE : CellsE w g 0 e) (hS : w.cell? ⟨h, 0, none⟩ = some (.slice A n cap)) :
    Calls Tryz.prog 117 #[.pointer (some ⟨g, 0, none⟩), .pointer (some ⟨h, 0, none⟩)] w fun en w' => EndK (kindE ks e) en ∧ Below w.heap.size w w' := by
  have hk := kindOf_any e w A n cap ks hin hc hn
  generalize kindE ks e = r at hk ⊢
  unfold Ex.val at hk
  obtain ⟨c0, c1, c2, c3, c4, c5⟩ := hE
  simp only [Nat.zero_add] at c1 c2 c3 c4 c5
  go_enter Tryz.func117, Tryz.ntmps117
  go_wp2_with fail
  refine hk.mono ?_
  intro en w2 he
  obtain ⟨he, b2⟩ := he
  cases r with
  | none =>
    obtain ⟨z, hz0, rfl⟩ := he
    go_wp2_with fail
    exact ⟨rfl, ⟨z, hz0, rfl⟩, b2⟩
  | some k =>
    obtain rfl := he
    go_wp2_with fail
    go_ret
    exact ⟨rfl, b2⟩

theorem cellsE_fresh (e : Ex) (w : World) : CellsE (w.alloc (.cells #[.int .i64 e.op, .int .i64 e.col, .int .i64 e.v.kind, .int .i64 e.v.num, .string ⟨e.v.text.toArray⟩, .slice e.A e.n e.cap] 67)) w.heap.size 0 e := by
  obtain ⟨c0, c1, c2, c3, c4, c5⟩ := (At.fresh w 67 #[.int .i64 e.op, .int .i64 e.col, .int .i64 e.v.kind, .int .i64 e.v.num, .string ⟨e.v.text.toArray⟩, .slice e.A e.n e.cap]).six
  exact ⟨c0, by rw [Nat.zero_add]; exact c1, by rw [Nat.zero_add]; exact c2, by rw [Nat.zero_add]; exact c3, by rw [Nat.zero_add]; exact c4, by rw [Nat.zero_add]; exact c5⟩

theorem Kind_any (e : Ex) (A : Option Addr) (n cap : Nat) (ks : List Int) (w : World) (hin : InE w e) (hc : Cols w A n ks) (hn : n ≤ maxLen) :
    Calls Tryz.prog 95 #[e.val, .slice A n cap] w fun en w' => EndKE (kindX ks e) en ∧ Below w.heap.size w w' := by
  have hmf : ∀ (fn : Fn) (first cap : Array Value) (w : World), (Instr.makeFunc fn first cap).run Tryz.prog w = .ok (.func fn first cap) w := fun _ _ _ _ => rfl
  have hE0 := cellsE_fresh e w
  have hb0 := below_box w (.cells #[.int .i64 e.op, .int .i64 e.col, .int .i64 e.v.kind, .int .i64 e.v.num, .string ⟨e.v.text.toArray⟩, .slice e.A e.n e.cap] 67)
  have hlt : w.heap.size < (w.alloc (.cells #[.int .i64 e.op, .int .i64 e.col, .int .i64 e.v.kind, .int .i64 e.v.num, .string ⟨e.v.text.toArray⟩, .slice e.A e.n e.cap] 67)).heap.size := by simp
  have hsz : (w.alloc (.cells #[.int .i64 e.op, .int .i64 e.col, .int .i64 e.v.kind, .int .i64 e.v.num, .string ⟨e.v.text.toArray⟩, .slice e.A e.n e.cap] 67)).heap.size = w.heap.size + 1 := by simp
  have hS0 := At.fresh (w.alloc (.cells #[.int .i64 e.op, .int .i64 e.col, .int .i64 e.v.kind, .int .i64 e.v.num, .string ⟨e.v.text.toArray⟩, .slice e.A e.n e.cap] 67)) 29 #[.slice A n cap]
  have hb1 := below_box (w.alloc (.cells #[.int .i64 e.op, .int .i64 e.col, .int .i64 e.v.kind, .int .i64 e.v.num, .string ⟨e.v.text.toArray⟩, .slice e.A e.n e.cap] 67)) (.cells #[.slice A n cap] 29)
  have hE1 := hE0.below hb1 hlt
  have hb := below_in hb0 hb1
  rw [hsz] at hS0
  clear hb0 hb1 hE0
  generalize hW : (w.alloc (.cells #[.int .i64 e.op, .int .i64 e.col, .int .i64 e.v.kind, .int .i64 e.v.num, .string ⟨e.v.text.toArray⟩, .slice e.A e.n e.cap] 67)).alloc (.cells #[.slice A n cap] 29) = W at hb hS0 hE1
  have hl := isLong_any e W (hin.below hb)
  have H : Hid (kindX ks e = if leftE e 24 8 < 0 then none else kindE ks e) := rfl
  generalize kindX ks e = kx at H ⊢
  have hgt : w.heap.size < W.heap.size := by have := hS0.lt; omega
  have hfin := fun w3 (b3 : Below W.heap.size W w3) => finish_int #[.pointer (some ⟨w.heap.size, 0, none⟩), .pointer (some ⟨w.heap.size + 1, 0, none⟩)] (kindE ks e) w3 (fun w4 b4 =>
    kindL_any e A n cap ks w.heap.size (w.heap.size + 1) w4 (hin.below (below_in hb (below_in b3 b4))) (hc.below (below_in hb (below_in b3 b4))) hn (hE1.below (below_in b3 b4) hgt) ((hS0.below (below_in b3 b4) hS0.lt).cell 0))
  obtain ⟨c0, c1, c2, c3, c4, c5⟩ := hE1
  simp only [Nat.zero_add] at c1 c2 c3 c4 c5
  unfold Ex.val at *
  go_enter Tryz.func95, Tryz.ntmps95
  go_wp2_with fail
  refine hl.mono ?_
  rintro en w3 ⟨rfl, b3⟩
  have hb3 := below_in hb b3
  by_cases hlong : leftE e 24 8 < 0
  · rw [if_pos hlong] at H
    have hd : decide (leftE e 24 8 < 0) = true := by simpa using hlong
    rw [hd]
    clear hd hlong
    go_wp2_with fail
    refine bodyPost_ret (results_tmp2 rfl _ _ _) rfl ⟨by rw [H.out]; exact ⟨3, by decide, rfl⟩, hb3⟩
  · rw [if_neg hlong] at H
    have hd : decide (leftE e 24 8 < 0) = false := by simpa using hlong
    rw [hd]
    clear hd hlong
    go_wp2_with fail
    refine (hfin _ b3).mono ?_
    intro en w4 he
    obtain ⟨he, b4⟩ := he
    have hb4 := below_in hb3 b4
    generalize kindE ks e = r at he H
    cases r with
    | none =>
      obtain ⟨z, hz0, rfl⟩ := he
      go_wp2_with fail
      refine bodyPost_ret (results_tmp2 rfl _ _ _) rfl ⟨by rw [H.out]; exact ⟨z, hz0, rfl⟩, hb4⟩
    | some k =>
      obtain rfl := he
      go_wp2_with fail
      refine bodyPost_ret (results_tmp2 rfl _ _ _) rfl ⟨by rw [H.out]; rfl, hb4⟩

end Go.Proofs.YtnhalfdddcjicaaGreat
