/- From what the row lists of the library's tables to the places that the text of one half reads. -/
/- From what the row lists of the library's tables to the whole tables in memory. -/
import Derived.Test.YtapkihcgnhofmaaGreatDoorQFmtA
import Derived.Lib.LaidTab
import Derived.OpenShut
import Derived.ChangeArms
import Derived.Test.YtapkihcgnhofmaaGreatDoorQFw
namespace Go.Proofs.YtapkihcgnhofmaaGreatDoor
open Go.RowKit

/-- What the i-th listed variable holds. -/
theorem laid_nth {P : Program} {w : World} : ∀ {l : List (String × DataW Unit)} {ps : List MemPlace}, DataW.LaidVars P w l ps → ∀ (i : Nat) (x : String × DataW Unit), l[i]? = some x →
    ∃ g t cs fuel p, P.globalNamed x.1 = some g ∧ (P.globals[g]?).map (·.type) = some t ∧ w.var? P x.1 = some cs ∧ DataW.trod (fun _ => ()) P w 0 (fun _ => true) false fuel t cs.toList = some (x.2, p)
  | [], _, _, i, x, hx => by simp at hx
  | (n, d) :: r, ps, h, i, x, hx => by
    obtain ⟨g, t, cs, fuel, p, q, h1, h2, h3, h4, h5, _⟩ := h
    cases i with
    | zero =>
      simp only [List.getElem?_cons_zero, Option.some.injEq] at hx
      subst hx
      exact ⟨g, t, cs, fuel, p, h1, h2, h3, h4⟩
    | succ i => exact laid_nth h5 i x (by simpa using hx)

def tens : List Int := [1, 10, 100, 1000, 10000, 100000, 1000000, 10000000, 100000000, 1000000000, 10000000000, 100000000000, 1000000000000, 10000000000000, 100000000000000, 1000000000000000, 10000000000000000, 100000000000000000, 1000000000000000000, 10000000000000000000]

def ROW : List (String × DataW Unit) := Rows.realTextsRow.laid
def X3 : String × DataW Unit := (ROW[8]?).getD ("", .nil)
def X5 : String × DataW Unit := (ROW[12]?).getD ("", .nil)
theorem x3 : ROW[8]? = some X3 := rfl
theorem x5 : ROW[12]? = some X5 := rfl
theorem g3 : Tryz.prog.globalNamed X3.1 = some 2 := by kernel_rfl
theorem g5 : Tryz.prog.globalNamed X5.1 = some 5 := by kernel_rfl
theorem t3 : (Tryz.prog.globals[2]?).map (·.type) = some 92 := by kernel_rfl
theorem t5 : (Tryz.prog.globals[5]?).map (·.type) = some 108 := by kernel_rfl
theorem c27 : Tryz.prog.cellsOf 37 = 1 := by kernel_rfl
theorem c85 : Tryz.prog.cellsOf 92 = 20 := by kernel_rfl
theorem c93 : Tryz.prog.cellsOf 107 = 2 := by kernel_rfl
theorem dx3 : X3.2 = Lib.tabData .u64 tens := rfl
theorem dx5 : X5.2 = .agg (Pinned.pow10Rows.map fun x => .agg [.lit (.int .u64 x.1), .lit (.int .u64 x.2)]) := rfl
theorem row365 : Pinned.pow10Rows[365]? = some (12800000000000000000, 0) := by kernel_rfl

set_option maxRecDepth 100000 in
theorem halfTabs_of_laid {W : World} (h : laidMet Tryz.prog ROW W) : HalfTabs W := by
  obtain ⟨ps, hv, _, _⟩ := h
  obtain ⟨ga, ta, ca, fa, pa, a1, a2, a3, a4⟩ := laid_nth hv 8 X3 x3
  obtain ⟨gb, tb, cb, fb, pb, b1, b2, b3, b4⟩ := laid_nth hv 12 X5 x5
  obtain rfl := Option.some.inj (g3.symm.trans a1)
  obtain rfl := Option.some.inj (t3.symm.trans a2)
  obtain rfl := Option.some.inj (g5.symm.trans b1)
  obtain rfl := Option.some.inj (t5.symm.trans b2)
  rw [dx3] at a4
  rw [dx5] at b4
  have ea := Lib.cells_of_tab Tryz.underlying92 Tryz.underlying37 c27 c85 a4
  have hten : W.cell? ⟨2, 15, none⟩ = some (.int .u64 1000000000000000) := by
    rw [World.var?_cell a1 a3 15, ← Array.getElem?_toList, ea]; rfl
  obtain ⟨xs, m, rfl, hx, hl, hxl, hall⟩ := DataW.trod_array Tryz.underlying108 b4
  have hx1 : xs.map (·.1) = Pinned.pow10Rows.map fun x => (DataW.agg [.lit (.int .u64 x.1), .lit (.int .u64 x.2)] : DataW Unit) := by
    have := congrArg Prod.fst hx
    simpa using this.symm
  have h365 := hall 365 (by omega)
  have hd : (xs[365]?).map (·.1) = some (DataW.agg [.lit (.int .u64 (12800000000000000000 : Nat)), .lit (.int .u64 (0 : Nat))] : DataW Unit) := by
    rw [← List.getElem?_map, hx1, List.getElem?_map, row365]; rfl
  obtain ⟨x, hx2, hx3⟩ := Option.map_eq_some_iff.1 hd
  rw [hx2, c93] at h365
  obtain ⟨d, q⟩ := x
  simp only at hx3
  subst hx3
  obtain ⟨ys, n, rfl, hy, hyl, hyn, hyall⟩ := DataW.trod_struct Tryz.underlying107 h365
  have hy1 : ys.map (·.1) = [.lit (.int .u64 (12800000000000000000 : Nat)), .lit (.int .u64 (0 : Nat))] := by
    have := congrArg Prod.fst hy
    simpa using this.symm
  have k0 := hyall 0 _ rfl
  have k1 := hyall 1 _ rfl
  have q0 : (ys[0]?).map (·.1) = some (.lit (.int .u64 (12800000000000000000 : Nat))) := by rw [← List.getElem?_map, hy1]; rfl
  have q1 : (ys[1]?).map (·.1) = some (.lit (.int .u64 (0 : Nat))) := by rw [← List.getElem?_map, hy1]; rfl
  obtain ⟨y0, e0, f0⟩ := Option.map_eq_some_iff.1 q0
  obtain ⟨y1, e1, f1⟩ := Option.map_eq_some_iff.1 q1
  rw [e0] at k0
  rw [e1] at k1
  obtain ⟨z0, s0, r0, _⟩ := DataW.trod_int Tryz.underlying37 k0
  obtain ⟨z1, s1, r1, _⟩ := DataW.trod_int Tryz.underlying37 k1
  rw [r0] at f0
  rw [r1] at f1
  simp only [DataW.lit.injEq, Lit.int.injEq, true_and] at f0 f1
  subst f0 f1
  have hhi : W.cell? ⟨5, 730, none⟩ = some (.int .u64 12800000000000000000) := by
    rw [World.var?_cell b1 b3 730, ← Array.getElem?_toList]
    have := congrArg (·[0]?) s0
    simpa [List.getElem?_take, List.getElem?_drop, c27] using this
  have hlo : W.cell? ⟨5, 731, none⟩ = some (.int .u64 0) := by
    rw [World.var?_cell b1 b3 731, ← Array.getElem?_toList]
    have := congrArg (·[0]?) s1
    simpa [List.getElem?_take, List.getElem?_drop, c27] using this
  exact ⟨hhi, hlo, hten, World.block_lt_of_cell? W _ hhi, World.block_lt_of_cell? W _ hten⟩
end Go.Proofs.YtapkihcgnhofmaaGreatDoor

namespace Go.Proofs.YtapkihcgnhofmaaGreatDoor
open Go.RowKit

theorem tens_at : ∀ i, i < 20 → tens[i]? = some (((10 ^ i : Nat)) : Int) := by
  intro i hi
  have : ∀ j : Fin 20, tens[j.val]? = some (((10 ^ j.val : Nat)) : Int) := by decide
  exact this ⟨i, hi⟩
theorem rows_at {i : Nat} (hi : i < 696) : Pinned.pow10Rows[i]? = some (Pinned.pow10Rows.getD i (0, 0)) := by
  have hl := tab_len
  rw [List.getD_eq_getElem?_getD]
  have : i < Pinned.pow10Rows.length := by omega
  rw [List.getElem?_eq_getElem this]
  rfl

set_option maxRecDepth 100000 in
theorem powTab_of_laid {W : World} (h : laidMet Tryz.prog ROW W) : PowTab W ∧ TenTab W := by
  obtain ⟨ps, hv, _, _⟩ := h
  obtain ⟨ga, ta, ca, fa, pa, a1, a2, a3, a4⟩ := laid_nth hv 8 X3 x3
  obtain ⟨gb, tb, cb, fb, pb, b1, b2, b3, b4⟩ := laid_nth hv 12 X5 x5
  obtain rfl := Option.some.inj (g3.symm.trans a1)
  obtain rfl := Option.some.inj (t3.symm.trans a2)
  obtain rfl := Option.some.inj (g5.symm.trans b1)
  obtain rfl := Option.some.inj (t5.symm.trans b2)
  rw [dx3] at a4
  rw [dx5] at b4
  have ea := Lib.cells_of_tab Tryz.underlying92 Tryz.underlying37 c27 c85 a4
  obtain ⟨xs, m, rfl, hx, hl, hxl, hall⟩ := DataW.trod_array Tryz.underlying108 b4
  have hx1 : xs.map (·.1) = Pinned.pow10Rows.map fun x => (DataW.agg [.lit (.int .u64 x.1), .lit (.int .u64 x.2)] : DataW Unit) := by
    have := congrArg Prod.fst hx
    simpa using this.symm
  have both : ∀ i, i < 696 → W.cell? ⟨5, i * 2, none⟩ = some (.int .u64 ((Pinned.pow10Rows.getD i (0, 0)).1 : Nat)) ∧ W.cell? ⟨5, i * 2 + 1, none⟩ = some (.int .u64 ((Pinned.pow10Rows.getD i (0, 0)).2 : Nat)) := by
    intro i hi
    have hr := rows_at hi
    generalize Pinned.pow10Rows.getD i (0, 0) = R at *
    obtain ⟨rh, rl⟩ := R
    have hi5 := hall i (by omega)
    have hd : (xs[i]?).map (·.1) = some (DataW.agg [.lit (.int .u64 (rh : Nat)), .lit (.int .u64 (rl : Nat))] : DataW Unit) := by
      rw [← List.getElem?_map, hx1, List.getElem?_map, hr]; rfl
    obtain ⟨x, hx2, hx3⟩ := Option.map_eq_some_iff.1 hd
    rw [hx2, c93] at hi5
    obtain ⟨d, q⟩ := x
    simp only at hx3
    subst hx3
    obtain ⟨ys, n, rfl, hy, hyl, hyn, hyall⟩ := DataW.trod_struct Tryz.underlying107 hi5
    have hy1 : ys.map (·.1) = [.lit (.int .u64 (rh : Nat)), .lit (.int .u64 (rl : Nat))] := by
      have := congrArg Prod.fst hy
      simpa using this.symm
    have k0 := hyall 0 _ rfl
    have k1 := hyall 1 _ rfl
    have q0 : (ys[0]?).map (·.1) = some (.lit (.int .u64 (rh : Nat))) := by rw [← List.getElem?_map, hy1]; rfl
    have q1 : (ys[1]?).map (·.1) = some (.lit (.int .u64 (rl : Nat))) := by rw [← List.getElem?_map, hy1]; rfl
    obtain ⟨y0, e0, f0⟩ := Option.map_eq_some_iff.1 q0
    obtain ⟨y1, e1, f1⟩ := Option.map_eq_some_iff.1 q1
    rw [e0] at k0
    rw [e1] at k1
    obtain ⟨z0, s0, r0, _⟩ := DataW.trod_int Tryz.underlying37 k0
    obtain ⟨z1, s1, r1, _⟩ := DataW.trod_int Tryz.underlying37 k1
    rw [r0] at f0
    rw [r1] at f1
    simp only [DataW.lit.injEq, Lit.int.injEq, true_and] at f0 f1
    subst f0 f1
    constructor
    · rw [World.var?_cell b1 b3 (i * 2), ← Array.getElem?_toList]
      have := congrArg (·[0]?) s0
      simpa [List.getElem?_take, List.getElem?_drop, c27, Nat.mul_comm] using this
    · rw [World.var?_cell b1 b3 (i * 2 + 1), ← Array.getElem?_toList]
      have := congrArg (·[0]?) s1
      simpa [List.getElem?_take, List.getElem?_drop, c27, Nat.mul_comm] using this
  refine ⟨⟨fun i hi => (both i hi).1, fun i hi => (both i hi).2⟩, ⟨fun i hi => ?_⟩⟩
  rw [World.var?_cell a1 a3 i, ← Array.getElem?_toList, ea, List.getElem?_map, tens_at i hi]
  rfl
end Go.Proofs.YtapkihcgnhofmaaGreatDoor
