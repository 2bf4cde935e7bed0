/- From what the row lists of the library's tables to the places that the text of one half reads. -/
/- From what the row lists of the library's tables to the whole tables in memory. -/
/- From what the row lists of the library's variables to all that reading a text asks of memory. -/
import Derived.Test.YtkaeaiagmihmgaaGreatDoorQFmtA
import Derived.Lib.LaidTab
import Derived.OpenShut
import Derived.ChangeArms
import Derived.Test.YtkaeaiagmihmgaaGreatDoorQFw
import Derived.Test.YtkaeaiagmihmgaaGreatDoorQGaD
namespace Go.Proofs.YtkaeaiagmihmgaaGreatDoor
open Go.RowKit

/-- What the i-th listed variable holds. -/
theorem laid_nth {P : Program} {w : World} : ∀ {l : List (String × DataW Unit)} {ps : List MemPlace}, DataW.LaidVars P w l ps → ∀ (i : Nat) (x : String × DataW Unit), l[i]? = some x →
    ∃ g t cs fuel p, P.globalNamed x.1 = some g ∧ (P.globals[g]?).map (·.type) = some t ∧ w.var? P x.1 = some cs ∧ DataW.trod (fun _ => ()) P w 0 (fun _ => true) false fuel t cs.toList = some (x.2, p)
  | [], _, _, i, x, hx => by simp at hx
  | (n, d) :: r, ps, h, i, x, hx => by
    obtain ⟨g, t, cs, fuel, p, q, h1, h2, h3, h4, h5, _⟩ := h
    cases i with
    | zero =>
      simp only [List.getElem?_cons_zero, Option.some.injEq] at hx
      subst hx
      exact ⟨g, t, cs, fuel, p, h1, h2, h3, h4⟩
    | succ i => exact laid_nth h5 i x (by simpa using hx)

def tens : List Int := [1, 10, 100, 1000, 10000, 100000, 1000000, 10000000, 100000000, 1000000000, 10000000000, 100000000000, 1000000000000, 10000000000000, 100000000000000, 1000000000000000, 10000000000000000, 100000000000000000, 1000000000000000000, 10000000000000000000]

def ROW : List (String × DataW Unit) := Rows.valueWordsRow.laid
def X3 : String × DataW Unit := (ROW[8]?).getD ("", .nil)
def X5 : String × DataW Unit := (ROW[13]?).getD ("", .nil)
theorem x3 : ROW[8]? = some X3 := rfl
theorem x5 : ROW[13]? = some X5 := rfl
theorem g3 : Tryz.prog.globalNamed X3.1 = some 2 := by kernel_rfl
theorem g5 : Tryz.prog.globalNamed X5.1 = some 8 := by kernel_rfl
theorem t3 : (Tryz.prog.globals[2]?).map (·.type) = some 108 := by kernel_rfl
theorem t5 : (Tryz.prog.globals[8]?).map (·.type) = some 145 := by kernel_rfl
theorem c27 : Tryz.prog.cellsOf 44 = 1 := by kernel_rfl
theorem c85 : Tryz.prog.cellsOf 108 = 20 := by kernel_rfl
theorem c93 : Tryz.prog.cellsOf 144 = 2 := by kernel_rfl
theorem dx3 : X3.2 = Lib.tabData .u64 tens := rfl
theorem dx5 : X5.2 = .agg (Pinned.pow10Rows.map fun x => .agg [.lit (.int .u64 x.1), .lit (.int .u64 x.2)]) := rfl
theorem row365 : Pinned.pow10Rows[365]? = some (12800000000000000000, 0) := by kernel_rfl

set_option maxRecDepth 100000 in
theorem halfTabs_of_laid {W : World} (h : laidMet Tryz.prog ROW W) : HalfTabs W := by
  obtain ⟨ps, hv, _, _⟩ := h
  obtain ⟨ga, ta, ca, fa, pa, a1, a2, a3, a4⟩ := laid_nth hv 8 X3 x3
  obtain ⟨gb, tb, cb, fb, pb, b1, b2, b3, b4⟩ := laid_nth hv 13 X5 x5
  obtain rfl := Option.some.inj (g3.symm.trans a1)
  obtain rfl := Option.some.inj (t3.symm.trans a2)
  obtain rfl := Option.some.inj (g5.symm.trans b1)
  obtain rfl := Option.some.inj (t5.symm.trans b2)
  rw [dx3] at a4
  rw [dx5] at b4
  have ea := Lib.cells_of_tab Tryz.underlying108 Tryz.underlying44 c27 c85 a4
  have hten : W.cell? ⟨2, 15, none⟩ = some (.int .u64 1000000000000000) := by
    rw [World.var?_cell a1 a3 15, ← Array.getElem?_toList, ea]; rfl
  obtain ⟨xs, m, rfl, hx, hl, hxl, hall⟩ := DataW.trod_array Tryz.underlying145 b4
  have hx1 : xs.map (·.1) = Pinned.pow10Rows.map fun x => (DataW.agg [.lit (.int .u64 x.1), .lit (.int .u64 x.2)] : DataW Unit) := by
    have := congrArg Prod.fst hx
    simpa using this.symm
  have h365 := hall 365 (by omega)
  have hd : (xs[365]?).map (·.1) = some (DataW.agg [.lit (.int .u64 (12800000000000000000 : Nat)), .lit (.int .u64 (0 : Nat))] : DataW Unit) := by
    rw [← List.getElem?_map, hx1, List.getElem?_map, row365]; rfl
  obtain ⟨x, hx2, hx3⟩ := Option.map_eq_some_iff.1 hd
  rw [hx2, c93] at h365
  obtain ⟨d, q⟩ := x
  simp only at hx3
  subst hx3
  obtain ⟨ys, n, rfl, hy, hyl, hyn, hyall⟩ := DataW.trod_struct Tryz.underlying144 h365
  have hy1 : ys.map (·.1) = [.lit (.int .u64 (12800000000000000000 : Nat)), .lit (.int .u64 (0 : Nat))] := by
    have := congrArg Prod.fst hy
    simpa using this.symm
  have k0 := hyall 0 _ rfl
  have k1 := hyall 1 _ rfl
  have q0 : (ys[0]?).map (·.1) = some (.lit (.int .u64 (12800000000000000000 : Nat))) := by rw [← List.getElem?_map, hy1]; rfl
  have q1 : (ys[1]?).map (·.1) = some (.lit (.int .u64 (0 : Nat))) := by rw [← List.getElem?_map, hy1]; rfl
  obtain ⟨y0, e0, f0⟩ := Option.map_eq_some_iff.1 q0
  obtain ⟨y1, e1, f1⟩ := Option.map_eq_some_iff.1 q1
  rw [e0] at k0
  rw [e1] at k1
  obtain ⟨z0, s0, r0, _⟩ := DataW.trod_int Tryz.underlying44 k0
  obtain ⟨z1, s1, r1, _⟩ := DataW.trod_int Tryz.underlying44 k1
  rw [r0] at f0
  rw [r1] at f1
  simp only [DataW.lit.injEq, Lit.int.injEq, true_and] at f0 f1
  subst f0 f1
  have hhi : W.cell? ⟨8, 730, none⟩ = some (.int .u64 12800000000000000000) := by
    rw [World.var?_cell b1 b3 730, ← Array.getElem?_toList]
    have := congrArg (·[0]?) s0
    simpa [List.getElem?_take, List.getElem?_drop, c27] using this
  have hlo : W.cell? ⟨8, 731, none⟩ = some (.int .u64 0) := by
    rw [World.var?_cell b1 b3 731, ← Array.getElem?_toList]
    have := congrArg (·[0]?) s1
    simpa [List.getElem?_take, List.getElem?_drop, c27] using this
  exact ⟨hhi, hlo, hten, World.block_lt_of_cell? W _ hhi, World.block_lt_of_cell? W _ hten⟩
end Go.Proofs.YtkaeaiagmihmgaaGreatDoor

namespace Go.Proofs.YtkaeaiagmihmgaaGreatDoor
open Go.RowKit

theorem tens_at : ∀ i, i < 20 → tens[i]? = some (((10 ^ i : Nat)) : Int) := by
  intro i hi
  have : ∀ j : Fin 20, tens[j.val]? = some (((10 ^ j.val : Nat)) : Int) := by decide
  exact this ⟨i, hi⟩
theorem rows_at {i : Nat} (hi : i < 696) : Pinned.pow10Rows[i]? = some (Pinned.pow10Rows.getD i (0, 0)) := by
  have hl := tab_len
  rw [List.getD_eq_getElem?_getD]
  have : i < Pinned.pow10Rows.length := by omega
  rw [List.getElem?_eq_getElem this]
  rfl

set_option maxRecDepth 100000 in
theorem powTab_of_laid {W : World} (h : laidMet Tryz.prog ROW W) : PowTab W ∧ TenTab W := by
  obtain ⟨ps, hv, _, _⟩ := h
  obtain ⟨ga, ta, ca, fa, pa, a1, a2, a3, a4⟩ := laid_nth hv 8 X3 x3
  obtain ⟨gb, tb, cb, fb, pb, b1, b2, b3, b4⟩ := laid_nth hv 13 X5 x5
  obtain rfl := Option.some.inj (g3.symm.trans a1)
  obtain rfl := Option.some.inj (t3.symm.trans a2)
  obtain rfl := Option.some.inj (g5.symm.trans b1)
  obtain rfl := Option.some.inj (t5.symm.trans b2)
  rw [dx3] at a4
  rw [dx5] at b4
  have ea := Lib.cells_of_tab Tryz.underlying108 Tryz.underlying44 c27 c85 a4
  obtain ⟨xs, m, rfl, hx, hl, hxl, hall⟩ := DataW.trod_array Tryz.underlying145 b4
  have hx1 : xs.map (·.1) = Pinned.pow10Rows.map fun x => (DataW.agg [.lit (.int .u64 x.1), .lit (.int .u64 x.2)] : DataW Unit) := by
    have := congrArg Prod.fst hx
    simpa using this.symm
  have both : ∀ i, i < 696 → W.cell? ⟨8, i * 2, none⟩ = some (.int .u64 ((Pinned.pow10Rows.getD i (0, 0)).1 : Nat)) ∧ W.cell? ⟨8, i * 2 + 1, none⟩ = some (.int .u64 ((Pinned.pow10Rows.getD i (0, 0)).2 : Nat)) := by
    intro i hi
    have hr := rows_at hi
    generalize Pinned.pow10Rows.getD i (0, 0) = R at *
    obtain ⟨rh, rl⟩ := R
    have hi5 := hall i (by omega)
    have hd : (xs[i]?).map (·.1) = some (DataW.agg [.lit (.int .u64 (rh : Nat)), .lit (.int .u64 (rl : Nat))] : DataW Unit) := by
      rw [← List.getElem?_map, hx1, List.getElem?_map, hr]; rfl
    obtain ⟨x, hx2, hx3⟩ := Option.map_eq_some_iff.1 hd
    rw [hx2, c93] at hi5
    obtain ⟨d, q⟩ := x
    simp only at hx3
    subst hx3
    obtain ⟨ys, n, rfl, hy, hyl, hyn, hyall⟩ := DataW.trod_struct Tryz.underlying144 hi5
    have hy1 : ys.map (·.1) = [.lit (.int .u64 (rh : Nat)), .lit (.int .u64 (rl : Nat))] := by
      have := congrArg Prod.fst hy
      simpa using this.symm
    have k0 := hyall 0 _ rfl
    have k1 := hyall 1 _ rfl
    have q0 : (ys[0]?).map (·.1) = some (.lit (.int .u64 (rh : Nat))) := by rw [← List.getElem?_map, hy1]; rfl
    have q1 : (ys[1]?).map (·.1) = some (.lit (.int .u64 (rl : Nat))) := by rw [← List.getElem?_map, hy1]; rfl
    obtain ⟨y0, e0, f0⟩ := Option.map_eq_some_iff.1 q0
    obtain ⟨y1, e1, f1⟩ := Option.map_eq_some_iff.1 q1
    rw [e0] at k0
    rw [e1] at k1
    obtain ⟨z0, s0, r0, _⟩ := DataW.trod_int Tryz.underlying44 k0
    obtain ⟨z1, s1, r1, _⟩ := DataW.trod_int Tryz.underlying44 k1
    rw [r0] at f0
    rw [r1] at f1
    simp only [DataW.lit.injEq, Lit.int.injEq, true_and] at f0 f1
    subst f0 f1
    constructor
    · rw [World.var?_cell b1 b3 (i * 2), ← Array.getElem?_toList]
      have := congrArg (·[0]?) s0
      simpa [List.getElem?_take, List.getElem?_drop, c27, Nat.mul_comm] using this
    · rw [World.var?_cell b1 b3 (i * 2 + 1), ← Array.getElem?_toList]
      have := congrArg (·[0]?) s1
      simpa [List.getElem?_take, List.getElem?_drop, c27, Nat.mul_comm] using this
  refine ⟨⟨fun i hi => (both i hi).1, fun i hi => (both i hi).2⟩, ⟨fun i hi => ?_⟩⟩
  rw [World.var?_cell a1 a3 i, ← Array.getElem?_toList, ea, List.getElem?_map, tens_at i hi]
  rfl
end Go.Proofs.YtkaeaiagmihmgaaGreatDoor

namespace Go.Proofs.YtkaeaiagmihmgaaGreatDoor
open Go.RowKit Go.Sort

theorem addr_add (b off i : Nat) : (⟨b, off, none⟩ : Addr).add i = ⟨b, off + i, none⟩ := by unfold Addr.add; split <;> simp_all
section
variable {P : Program} {w : World} {fuel : Nat} {t : TypeId} {cs : List Value} {x : DataW Unit × List MemPlace}
theorem trod_float' {k : FloatKind} (ht : P.underlying t = some (.float k)) (h : DataW.trod (fun _ => ()) P w 0 (fun _ => true) false fuel t cs = some x) : ∃ n, cs = [.float k n] ∧ x.1 = .lit (.float k n) := by
  cases fuel with
  | zero => simp [DataW.trod] at h
  | succ n =>
    unfold DataW.trod at h
    rw [ht] at h
    split at h <;> simp_all
    obtain ⟨-, rfl⟩ := h
    rfl
theorem trod_ifc {ms : Array (String × TypeId)} (ht : P.underlying t = some (.interface ms)) (h : DataW.trod (fun _ => ()) P w 0 (fun _ => true) false fuel t cs = some x) : ∃ ev, cs = [ev] ∧ (ev = .nilIface ∨ ∃ te pe, ev = .iface te pe) := by
  cases fuel with
  | zero => simp [DataW.trod] at h
  | succ n =>
    unfold DataW.trod at h
    rw [ht] at h
    split at h
    all_goals first
      | exact ⟨_, rfl, .inl rfl⟩
      | exact ⟨_, rfl, .inr ⟨_, _, rfl⟩⟩
      | (exfalso; simp_all)
/-- A slice that reads as these data: each lies in its place. -/
theorem slice_read {e : TypeId} {c : Nat} {ds : List (DataW Unit)} {p : List MemPlace} (ht : P.underlying t = some (.slice e)) (hc : P.cellsOf e = c) (h0 : 0 < ds.length) (hc0 : 0 < c)
    (h : DataW.trod (fun _ => ()) P w 0 (fun _ => true) false fuel t cs = some (.slice ds [], p)) :
    ∃ b off m, cs = [.slice (some ⟨b, off, none⟩) ds.length ds.length] ∧ b < w.heap.size ∧ ∀ i d, ds[i]? = some d → ∃ xs q, (xs.length = c ∧ ∀ j, j < c → w.cell? ⟨b, off + i * c + j, none⟩ = xs[j]?) ∧ DataW.trod (fun _ => ()) P w 0 (fun _ => true) false m e xs = some (d, q) := by
  rcases DataW.trod_slice ht h with ⟨_, hx⟩ | ⟨a, len, cap, elems, rest, m, _, hcs, hx, _, hl, hm, hlen, hel, hsp, _⟩
  · cases hx
  · injection hx with hx1 _
    injection hx1 with hx2 hx3
    have hr : rest = [] := by cases rest with
      | nil => rfl
      | cons a r => simp at hx3
    subst hr
    have hcap : cap = len := by have := (hsp rfl).1; simp at this; omega
    subst hcap
    rw [hc] at hel
    have hdl : ds.length = cap := by rw [hx2, List.length_map]; exact hlen
    have key : ∀ i d, ds[i]? = some d → ∃ xs q, (xs.length = c ∧ ∀ j, j < c → w.cell? ((a.add (i * c)).add j) = xs[j]?) ∧ DataW.trod (fun _ => ()) P w 0 (fun _ => true) false m e xs = some (d, q) := fun i d hd => by
      have hi : i < cap := by rw [← hdl]; exact (List.getElem?_eq_some_iff.1 hd).1
      have h1 := hel i hi
      rw [hx2, List.getElem?_map] at hd
      obtain ⟨y, hy, hy2⟩ := Option.map_eq_some_iff.1 hd
      rw [hy] at h1
      obtain ⟨xs, h2, h3⟩ := Option.bind_eq_some_iff.1 h1
      obtain ⟨_, hxl, hcell⟩ := World.cells?_some h2
      refine ⟨xs, y.2, ⟨hxl, fun j hj => ?_⟩, by rw [h3, ← hy2]⟩
      have := hcell j (by omega)
      rw [this]
    obtain ⟨d0, hd0⟩ : ∃ d, ds[0]? = some d := ⟨_, List.getElem?_eq_getElem h0⟩
    obtain ⟨b, off, spot⟩ := a
    obtain ⟨xs, q, ⟨hxl, hxc⟩, _⟩ := key 0 d0 hd0
    have hc1 := hxc 0 hc0
    rw [List.getElem?_eq_getElem (by omega)] at hc1
    have hspot : spot = none := by simpa [Addr.add] using World.cell?_spot hc1
    subst hspot
    refine ⟨b, off, m, by rw [hcs, hdl], ?_, fun i d hd => ?_⟩
    · have := World.block_lt_of_cell? w _ hc1
      simpa [Addr.add] using this
    · obtain ⟨xs, q, ⟨hxl, hxc⟩, hx⟩ := key i d hd
      refine ⟨xs, q, ⟨hxl, fun j hj => ?_⟩, hx⟩
      have := hxc j hj
      rw [addr_add, addr_add] at this
      exact this
end

/-- The block of the i-th listed variable, unfrozen. -/
theorem laid_row {P : Program} {w : World} : ∀ {l : List (String × DataW Unit)} {ps : List MemPlace}, DataW.LaidVars P w l ps → ∀ (i : Nat) (x : String × DataW Unit), l[i]? = some x →
    ∃ g cs, P.globalNamed x.1 = some g ∧ w.var? P x.1 = some cs ∧ ∀ pl ∈ MemPlace.row ⟨g, 0, none⟩ cs.size, pl ∈ ps
  | [], _, _, i, x, hx => by simp at hx
  | (n, d) :: r, ps, h, i, x, hx => by
    obtain ⟨g, t, cs, fuel, p, q, h1, h2, h3, h4, h5, h6⟩ := h
    cases i with
    | zero =>
      simp only [List.getElem?_cons_zero, Option.some.injEq] at hx
      subst hx
      exact ⟨g, cs, h1, h3, fun pl hp => by rw [h6]; exact List.mem_append_left _ (List.mem_append_left _ hp)⟩
    | succ i =>
      obtain ⟨g', cs', a1, a2, a3⟩ := laid_row h5 i x (by simpa using hx)
      exact ⟨g', cs', a1, a2, fun pl hp => by rw [h6]; exact List.mem_append_right _ (a3 pl hp)⟩

def XO : String × DataW Unit := (ROW[4]?).getD ("", .nil)
def XI : String × DataW Unit := (ROW[3]?).getD ("", .nil)
def XJ : String × DataW Unit := (ROW[2]?).getD ("", .nil)
def XP : String × DataW Unit := (ROW[5]?).getD ("", .nil)
def XF : String × DataW Unit := (ROW[6]?).getD ("", .nil)
def XL : String × DataW Unit := (ROW[12]?).getD ("", .nil)
def XS : String × DataW Unit := (ROW[11]?).getD ("", .nil)
def XR : String × DataW Unit := (ROW[10]?).getD ("", .nil)
theorem xo : ROW[4]? = some XO := rfl
theorem xi : ROW[3]? = some XI := rfl
theorem xj : ROW[2]? = some XJ := rfl
theorem xp : ROW[5]? = some XP := rfl
theorem xf : ROW[6]? = some XF := rfl
theorem xl : ROW[12]? = some XL := rfl
theorem xs' : ROW[11]? = some XS := rfl
theorem xr : ROW[10]? = some XR := rfl
theorem go_ : Tryz.prog.globalNamed XO.1 = some 1 := by kernel_rfl
theorem gi_ : Tryz.prog.globalNamed XI.1 = some 13 := by kernel_rfl
theorem gj_ : Tryz.prog.globalNamed XJ.1 = some 12 := by kernel_rfl
theorem gp_ : Tryz.prog.globalNamed XP.1 = some 15 := by kernel_rfl
theorem gf_ : Tryz.prog.globalNamed XF.1 = some 16 := by kernel_rfl
theorem gl_ : Tryz.prog.globalNamed XL.1 = some 9 := by kernel_rfl
theorem gs_ : Tryz.prog.globalNamed XS.1 = some 3 := by kernel_rfl
theorem gr_ : Tryz.prog.globalNamed XR.1 = some 4 := by kernel_rfl
theorem to_ : (Tryz.prog.globals[1]?).map (·.type) = some 4 := by kernel_rfl
theorem ti_ : (Tryz.prog.globals[13]?).map (·.type) = some 171 := by kernel_rfl
theorem tj_ : (Tryz.prog.globals[12]?).map (·.type) = some 171 := by kernel_rfl
theorem tp_ : (Tryz.prog.globals[15]?).map (·.type) = some 186 := by kernel_rfl
theorem tf_ : (Tryz.prog.globals[16]?).map (·.type) = some 187 := by kernel_rfl
theorem tl_ : (Tryz.prog.globals[9]?).map (·.type) = some 152 := by kernel_rfl
theorem ts_ : (Tryz.prog.globals[3]?).map (·.type) = some 55 := by kernel_rfl
theorem tr_ : (Tryz.prog.globals[4]?).map (·.type) = some 55 := by kernel_rfl
theorem cInt : Tryz.prog.cellsOf 3 = 1 := by kernel_rfl
theorem cFl : Tryz.prog.cellsOf 34 = 1 := by kernel_rfl
theorem cStr : Tryz.prog.cellsOf 9 = 1 := by kernel_rfl
theorem cUint : Tryz.prog.cellsOf 110 = 1 := by kernel_rfl
theorem cChe : Tryz.prog.cellsOf 151 = 2 := by kernel_rfl
theorem cInfo : Tryz.prog.cellsOf 171 = 3 := by kernel_rfl
theorem dxP : XP.2 = .slice (pows.map fun z => .lit (.int .i64 (z : Nat))) [] := rfl
theorem dxF : XF.2 = .slice (tenWords.map fun z => .lit (.float .f64 z)) [] := rfl
theorem dxL : XL.2 = .slice (Pinned.cheatRows.map fun x => .agg [.lit (.int .i64 x.1), .lit (.string x.2)]) [] := rfl
theorem dxI : XI.2 = .agg [.lit (.int .u64 52), .lit (.int .u64 11), .lit (.int .i64 (-1023))] := rfl
theorem dxO : XO.2 = .lit (.bool true) := rfl
theorem dxJ : XJ.2 = .agg [.lit (.int .u64 23), .lit (.int .u64 8), .lit (.int .i64 (-127))] := rfl
theorem cheats_len : Pinned.cheatRows.length = 61 := by kernel_rfl

theorem getD_some {α : Type} {l : List α} {i : Nat} (d : α) (h : i < l.length) : l[i]? = some (l.getD i d) := by
  rw [List.getElem?_eq_getElem h, List.getD_eq_getElem?_getD, List.getElem?_eq_getElem h]
  rfl

section
variable {W : World} {ps : List MemPlace} (hv : DataW.LaidVars Tryz.prog W ROW ps)
include hv
theorem laid_opt : W.cell? ⟨1, 0, none⟩ = some (.bool true) := by
  obtain ⟨g, t, cs, fu, p, a1, a2, a3, a4⟩ := laid_nth hv 4 XO xo
  obtain rfl := Option.some.inj (go_.symm.trans a1)
  obtain rfl := Option.some.inj (to_.symm.trans a2)
  rw [dxO] at a4
  obtain ⟨b, e1, e2⟩ := DataW.trod_bool Tryz.underlying4 a4
  injection e2 with e2 _
  injection e2 with e2
  injection e2 with e2
  subst e2
  rw [World.var?_cell a1 a3 0, ← Array.getElem?_toList, e1]
  rfl
theorem laid_err (i : Nat) (x : String × DataW Unit) (hx : ROW[i]? = some x) (g : Nat) (hg : Tryz.prog.globalNamed x.1 = some g) (ht : (Tryz.prog.globals[g]?).map (·.type) = some 55) :
    ∃ ev, W.cell? ⟨g, 0, none⟩ = some ev ∧ (ev = .nilIface ∨ ∃ te pe, ev = .iface te pe) := by
  obtain ⟨g', t, cs, fu, p, a1, a2, a3, a4⟩ := laid_nth hv i x hx
  obtain rfl := Option.some.inj (hg.symm.trans a1)
  obtain rfl := Option.some.inj (ht.symm.trans a2)
  obtain ⟨ev, e1, e2⟩ := trod_ifc Tryz.underlying55 a4
  refine ⟨ev, ?_, e2⟩
  rw [World.var?_cell a1 a3 0, ← Array.getElem?_toList, e1]
  rfl
theorem laid_info : W.cell? ⟨13, 0, none⟩ = some (.int .u64 52) ∧ W.cell? ⟨13, 1, none⟩ = some (.int .u64 11) ∧ W.cell? ⟨13, 2, none⟩ = some (.int .i64 (-1023)) := by
  obtain ⟨g, t, cs, fu, p, a1, a2, a3, a4⟩ := laid_nth hv 3 XI xi
  obtain rfl := Option.some.inj (gi_.symm.trans a1)
  obtain rfl := Option.some.inj (ti_.symm.trans a2)
  rw [dxI] at a4
  obtain ⟨ys, n, rfl, hy, hyl, hyn, hyall⟩ := DataW.trod_struct Tryz.underlying171 a4
  have hy1 : ys.map (·.1) = [.lit (.int .u64 52), .lit (.int .u64 11), .lit (.int .i64 (-1023))] := by
    have := congrArg Prod.fst hy
    simpa using this.symm
  have k0 := hyall 0 _ rfl
  have k1 := hyall 1 _ rfl
  have k2 := hyall 2 _ rfl
  have q0 : (ys[0]?).map (·.1) = some (.lit (.int .u64 52)) := by rw [← List.getElem?_map, hy1]; rfl
  have q1 : (ys[1]?).map (·.1) = some (.lit (.int .u64 11)) := by rw [← List.getElem?_map, hy1]; rfl
  have q2 : (ys[2]?).map (·.1) = some (.lit (.int .i64 (-1023))) := by rw [← List.getElem?_map, hy1]; rfl
  obtain ⟨y0, e0, f0⟩ := Option.map_eq_some_iff.1 q0
  obtain ⟨y1, e1, f1⟩ := Option.map_eq_some_iff.1 q1
  obtain ⟨y2, e2, f2⟩ := Option.map_eq_some_iff.1 q2
  rw [e0] at k0
  rw [e1] at k1
  rw [e2] at k2
  obtain ⟨z0, s0, r0, _⟩ := DataW.trod_int Tryz.underlying110 k0
  obtain ⟨z1, s1, r1, _⟩ := DataW.trod_int Tryz.underlying110 k1
  obtain ⟨z2, s2, r2, _⟩ := DataW.trod_int Tryz.underlying3 k2
  rw [r0] at f0
  rw [r1] at f1
  rw [r2] at f2
  simp only [DataW.lit.injEq, Lit.int.injEq, true_and] at f0 f1 f2
  subst f0 f1 f2
  refine ⟨?_, ?_, ?_⟩
  · rw [World.var?_cell a1 a3 0, ← Array.getElem?_toList]
    have := congrArg (·[0]?) s0
    simpa [List.getElem?_take, List.getElem?_drop, cUint] using this
  · rw [World.var?_cell a1 a3 1, ← Array.getElem?_toList]
    have := congrArg (·[0]?) s1
    simpa [List.getElem?_take, List.getElem?_drop, cUint] using this
  · rw [World.var?_cell a1 a3 2, ← Array.getElem?_toList]
    have := congrArg (·[0]?) s2
    simpa [List.getElem?_take, List.getElem?_drop, cInt] using this
theorem laid_pows : ∃ blk po, W.cell? ⟨15, 0, none⟩ = some (.slice (some ⟨blk, po, none⟩) 9 9) ∧ blk < W.heap.size ∧ ∀ i, i < 9 → W.cell? ⟨blk, po + i, none⟩ = some (.int .i64 ((pows.getD i 0 : Nat) : Int)) := by
  obtain ⟨g, t, cs, fu, p, a1, a2, a3, a4⟩ := laid_nth hv 5 XP xp
  obtain rfl := Option.some.inj (gp_.symm.trans a1)
  obtain rfl := Option.some.inj (tp_.symm.trans a2)
  rw [dxP] at a4
  obtain ⟨b, off, m, h1, h2, h3⟩ := slice_read Tryz.underlying186 cInt (by decide) (by decide) a4
  refine ⟨b, off, ?_, h2, fun i hi => ?_⟩
  · rw [World.var?_cell a1 a3 0, ← Array.getElem?_toList, h1]
    rfl
  · obtain ⟨xs, q, ⟨hl, hc⟩, hx⟩ := h3 i (.lit (.int .i64 ((pows.getD i 0 : Nat) : Int))) (by rw [List.getElem?_map, getD_some 0 hi]; rfl)
    obtain ⟨z, e1, e2, _⟩ := DataW.trod_int Tryz.underlying3 hx
    injection e2 with e2 _
    injection e2 with e2
    injection e2 with _ e2
    have := hc 0 (by decide)
    rw [e1, ← e2] at this
    simpa using this
theorem laid_tens : ∃ blk po, W.cell? ⟨16, 0, none⟩ = some (.slice (some ⟨blk, po, none⟩) 23 23) ∧ ∀ i, i < 23 → W.cell? ⟨blk, po + i, none⟩ = some (.float .f64 (tenWords.getD i 0)) := by
  obtain ⟨g, t, cs, fu, p, a1, a2, a3, a4⟩ := laid_nth hv 6 XF xf
  obtain rfl := Option.some.inj (gf_.symm.trans a1)
  obtain rfl := Option.some.inj (tf_.symm.trans a2)
  rw [dxF] at a4
  obtain ⟨b, off, m, h1, h2, h3⟩ := slice_read Tryz.underlying187 cFl (by decide) (by decide) a4
  refine ⟨b, off, ?_, fun i hi => ?_⟩
  · rw [World.var?_cell a1 a3 0, ← Array.getElem?_toList, h1]
    rfl
  · obtain ⟨xs, q, ⟨hl, hc⟩, hx⟩ := h3 i (.lit (.float .f64 (tenWords.getD i 0))) (by rw [List.getElem?_map, getD_some 0 hi]; rfl)
    obtain ⟨z, e1, e2⟩ := trod_float' Tryz.underlying34 hx
    injection e2 with e2
    injection e2 with _ e2
    have := hc 0 (by decide)
    rw [e1, ← e2] at this
    simpa using this
theorem laid_cheats (B : Nat) (hB : W.heap.size = B) : Cheats W B := by
  obtain ⟨g, t, cs, fu, p, a1, a2, a3, a4⟩ := laid_nth hv 12 XL xl
  obtain rfl := Option.some.inj (gl_.symm.trans a1)
  obtain rfl := Option.some.inj (tl_.symm.trans a2)
  rw [dxL] at a4
  obtain ⟨b, off, m, h1, h2, h3⟩ := slice_read Tryz.underlying152 cChe (by rw [List.length_map, cheats_len]; decide) (by decide) a4
  rw [List.length_map, cheats_len] at h1
  have hhd : W.cell? ⟨9, 0, none⟩ = some (.slice (some ⟨b, off, none⟩) 61 61) := by
    rw [World.var?_cell a1 a3 0, ← Array.getElem?_toList, h1]
    rfl
  subst hB
  refine ⟨b, off, h2, World.block_lt_of_cell? W _ hhd, hhd, fun k d c hk => ?_⟩
  obtain ⟨xs, q, ⟨hl, hc⟩, hx⟩ := h3 k (.agg [.lit (.int .i64 d), .lit (.string c)]) (by rw [List.getElem?_map, hk]; rfl)
  obtain ⟨ys, n, rfl, hy, hyl, hyn, hyall⟩ := DataW.trod_struct Tryz.underlying151 hx
  have hy1 : ys.map (·.1) = [.lit (.int .i64 d), .lit (.string c)] := by
    have := congrArg Prod.fst hy
    simpa using this.symm
  have k0 := hyall 0 _ rfl
  have k1 := hyall 1 _ rfl
  have q0 : (ys[0]?).map (·.1) = some (.lit (.int .i64 d)) := by rw [← List.getElem?_map, hy1]; rfl
  have q1 : (ys[1]?).map (·.1) = some (.lit (.string c)) := by rw [← List.getElem?_map, hy1]; rfl
  obtain ⟨y0, e0, f0⟩ := Option.map_eq_some_iff.1 q0
  obtain ⟨y1, e1, f1⟩ := Option.map_eq_some_iff.1 q1
  rw [e0] at k0
  rw [e1] at k1
  obtain ⟨z0, s0, r0, _⟩ := DataW.trod_int Tryz.underlying3 k0
  obtain ⟨z1, s1, r1, _⟩ := DataW.trod_string Tryz.underlying9 k1
  rw [r0] at f0
  rw [r1] at f1
  simp only [DataW.lit.injEq, Lit.int.injEq, Lit.string.injEq, true_and] at f0 f1
  have hz1 : z1 = ⟨c.toArray⟩ := by rw [← f1]
  subst f0 hz1
  refine ⟨?_, ?_⟩
  · have h := hc 0 (by decide)
    have := congrArg (·[0]?) s0
    rw [Nat.add_zero, Nat.mul_comm] at h
    rw [h]
    simpa [List.getElem?_take, List.getElem?_drop, cInt] using this
  · have h := hc 1 (by decide)
    have := congrArg (·[0]?) s1
    rw [Nat.mul_comm k 2] at h
    rw [h]
    simpa [List.getElem?_take, List.getElem?_drop, cStr] using this
theorem laid_blk (hun : ∀ b off, MemPlace.cell b off ∈ ps → (∃ c t, W.heap[b]? = some (.cells c t (0, 0))) ∧ ∀ u v, W.cell? ⟨b, off, none⟩ = some (.iface u v) → Value.okWide Tryz.prog W .any 0 u v) (i : Nat) (x : String × DataW Unit) (hx : ROW[i]? = some x) (g : Nat)
    (hg : Tryz.prog.globalNamed x.1 = some g) (hc : ∃ v, W.cell? ⟨g, 0, none⟩ = some v) : ∃ (c : Array Value) (t : TypeId), W.heap[g]? = some (.cells c t (0, 0)) := by
  obtain ⟨g', cs, a1, a2, a3⟩ := laid_row hv i x hx
  obtain rfl := Option.some.inj (hg.symm.trans a1)
  obtain ⟨v, hc⟩ := hc
  rw [World.var?_cell a1 a2 0] at hc
  have hs : 0 < cs.size := by
    rcases Nat.lt_or_ge 0 cs.size with h | h
    · exact h
    · rw [Array.getElem?_eq_none h] at hc; cases hc
  exact (hun g 0 (a3 _ (by unfold MemPlace.row; rw [List.mem_map]; exact ⟨0, List.mem_range.2 hs, rfl⟩))).1
theorem laid_info32 : ∃ v, W.cell? ⟨12, 0, none⟩ = some v := by
  obtain ⟨g, t, cs, fu, p, a1, a2, a3, a4⟩ := laid_nth hv 2 XJ xj
  obtain rfl := Option.some.inj (gj_.symm.trans a1)
  obtain rfl := Option.some.inj (tj_.symm.trans a2)
  obtain ⟨ys, n, rfl, hy, hyl, hyn, hyall⟩ := DataW.trod_struct Tryz.underlying171 a4
  rw [cInfo] at hyl
  have hs : 0 < cs.size := by rw [Array.length_toList] at hyl; omega
  exact ⟨cs[0], by rw [World.var?_cell a1 a3 0, Array.getElem?_eq_getElem hs]⟩
end
/-- All that the law asks of memory. -/
def Texts (w : World) : Prop := HalfTabs w ∧ ∃ gT oT B blk po, Mem64 w gT oT B blk po
theorem texts_of_laid {W : World} (h : laidMet Tryz.prog ROW W) : Texts W := by
  refine ⟨halfTabs_of_laid h, ?_⟩
  obtain ⟨hP, hTT⟩ := powTab_of_laid h
  obtain ⟨ps, hv, hnd, hun⟩ := h
  obtain ⟨i0, i1, i2⟩ := laid_info hv
  obtain ⟨gT, oT, t1, t2⟩ := laid_tens hv
  obtain ⟨blk, po, p1, p2, p3⟩ := laid_pows hv
  exact ⟨gT, oT, W.heap.size, blk, po, hP, ⟨t1, t2, i0⟩, laid_opt hv, ⟨i0, i1, i2, laid_blk hv hun _ _ xi _ gi_ ⟨_, i0⟩, laid_blk hv hun _ _ xj _ gj_ (laid_info32 hv)⟩,
    ⟨laid_cheats hv _ rfl, ⟨p2, World.block_lt_of_cell? W _ p1, p1, p3⟩, ⟨i0, i1, i2⟩, World.block_lt_of_cell? W _ i0⟩, Nat.le_refl _, ⟨laid_err hv _ _ xs' _ gs_ ts_, laid_err hv _ _ xr _ gr_ tr_⟩, hTT⟩
end Go.Proofs.YtkaeaiagmihmgaaGreatDoor
