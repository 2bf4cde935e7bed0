/- Append of a row of grants to one's own. -/
/- slices.Delete at grants, in one's own row. -/
/- Take. -/
/- Plain mathematics of Take. -/
/- Plain mathematics of what is given and taken, in the words of May. -/
import Derived.Test.YteehccklnidofaaQGrP
import Derived.Laws.OwnMore
import Derived.Deep.RegionLaw
import Derived.Test.YteehccklnidofaaQGrS
import Derived.Test.YteehccklnidofaaQGrG
namespace Go.Proofs.Yteehccklnidofaa
open Go.RowKit

theorem run_append_rowG (w : World) (base : Nat) (ty : TypeId) (v : Value) (n : Nat) (xs : List Value) (h : w.ownsRow base 24 3 v n xs) (A : Option Addr) (m c : Nat) (gs : List Gr) (hr : RowG w A m gs) (hn : n + m ≤ 1000000) (hb : base ≤ w.heap.size) :
    ∃ v' w', (Builtin.append_ #[22, 22] ty #[v, .slice A m c]).run Try.prog w = .ok v' w' ∧ w'.ownsRow base 24 3 v' (n + m) (xs ++ gs.flatMap Gr.cs) ∧ w.grownBy w' v.ownBlock := by
  obtain ⟨i0, hi0, hz0, hzs, hzb⟩ := info_parts info_grant
  have hgl := hr.1
  cases A with
  | none =>
    have h0 : m = 0 := by
      rcases Nat.eq_zero_or_pos m with h | h
      · exact h
      · obtain ⟨_, _, h1, _⟩ := hr.2.2 h; cases h1
    subst h0
    obtain rfl : gs = [] := List.eq_nil_of_length_eq_zero hgl
    refine ⟨v, w, ?_, by simpa using h, World.grownBy.refl _ _⟩
    rcases h.2 with ⟨rfl, rfl⟩ | ⟨g, cap, cur, rfl, _, _, hnc, _⟩
    · simp [Builtin.append_, run_underlying (P := Try.prog) Try.underlying22, sizeOf, typeInfo, hi0, Builtin.lenOf, Builtin.firstCells]
    · simp [Builtin.append_, run_underlying (P := Try.prog) Try.underlying22, sizeOf, typeInfo, hi0, Builtin.lenOf, Builtin.firstCells, hnc, storeCells]
  | some ad =>
    have hnews : ∀ j u, (gs.flatMap Gr.cs)[j]? = some u → w.cell? (ad.add j) = some u := fun j u hu => by
      have hpos : 0 < m := by
        rcases Nat.eq_zero_or_pos m with h | h
        · obtain rfl : gs = [] := List.eq_nil_of_length_eq_zero (by omega)
          simp at hu
        · exact h
      obtain ⟨b, off, e1, e2⟩ := rowG_cells hr hpos
      injection e1 with e1
      subst e1
      exact rows_news3 Gr.cs default (fun _ => rfl) gs w b off (fun j hj i v hv => e2 j (by omega) i v hv) j u hu
    obtain ⟨v', w', hrun, h2, h3, _, _⟩ := run_append_own_at (P := Try.prog) w base 22 ty 24 i0 _ 3 32 Try.underlying22 hi0 hz0 hzs hzb rfl (by omega) v n xs h ad m c (gs.flatMap Gr.cs) (by rw [flat_len3 _ (fun _ => rfl), hgl]) hnews (one_cells _ _ (fun a u hu => by simp [Gr.cs] at hu; rcases hu with rfl | rfl | rfl <;> rfl)) (by unfold maxLen; omega) (by omega) hb
    exact ⟨v', w', hrun, h2, h3⟩
theorem wp_append_rowG {ops : Array Oper} {rest : List Oper} {o : Oper} {a : Act} {Q : Exit → Act → World → Prop} {w : World} {base : Nat} {v : Value} {n : Nat} {xs : List Value} (hgd : o.guard = none) (sl x : Operand)
    (hop : o.op = .call { callee := .builtin .append, args := #[sl, x], argTypes := #[22, 22] }) (h : w.ownsRow base 24 3 v n xs) (A : Option Addr) (m c : Nat) (gs : List Gr) (hr : RowG w A m gs)
    (hsl : a.eval sl = v) (hx : a.eval x = .slice A m c) (hn : n + m ≤ 1000000) (hb : base ≤ w.heap.size)
    (hQ : ∀ v' w', w'.ownsRow base 24 3 v' (n + m) (xs ++ gs.flatMap Gr.cs) → w.grownBy w' v.ownBlock → wpList Try.prog ops Q rest (a.put o.dst v') w') :
    wpList Try.prog ops Q (o :: rest) a w := by
  obtain ⟨v', w', hrun, h2, h3⟩ := run_append_rowG w base o.type v n xs h A m c gs hr hn hb
  refine wpList_plain hgd fun K hK => ?_
  unfold Oper.wp execOp
  simp only [hop, resolve, invoke, builtin, Sem.run_bind, Sem.run_pure, Result.andThen_ok, List.map_toArray, List.map_cons, List.map_nil, hsl, hx, hrun]
  exact hK _ _ (hQ v' w' h2 h3)
end Go.Proofs.Yteehccklnidofaa

namespace Go.Proofs.Yteehccklnidofaa
open Go.RowKit

def zeroG : List Value := [.int .i64 0, .string ⟨#[]⟩, .int .i64 0]
theorem zero_cells1 : (Builtin.zeroCells (Value.agg #[.int .i64 0, .string ⟨#[]⟩, .int .i64 0]).cells 1).toList = zeroG := by
  simp [Builtin.zeroCells, Value.cells, zeroG]
  rfl
theorem run_clearG (w : World) (ty : TypeId) (b o k c : Nat) (zs : List Value) (hk : 0 < k) (hzs : (Builtin.zeroCells (Value.agg #[.int .i64 0, .string ⟨#[]⟩, .int .i64 0]).cells k).toList = zs) (h1 : ∀ u ∈ zs, u.oneCell' = true)
    (hc : ∀ j, j < zs.length → (w.cell? ⟨b, o + j, none⟩).isSome = true) (hf : ∀ j, j < zs.length → w.frozen? ⟨b, o + j, none⟩ = false) :
    (Builtin.clear_ #[22] ty #[.slice (some ⟨b, o, none⟩) k c]).run Try.prog w = .ok (.tuple #[]) (w.setCells b o zs) := by
  have hst := run_storeCells_cells (P := Try.prog) b o zs 0 w (by simpa using hc) (by simpa using hf) h1
  simp only [Nat.add_zero] at hst
  obtain ⟨m, rfl⟩ : ∃ m, k = m + 1 := ⟨k - 1, by omega⟩
  simp [Builtin.clear_, run_underlying (P := Try.prog) Try.underlying22, hzs, hst]

set_option maxRecDepth 100000 in
set_option maxHeartbeats 3200000 in
theorem deleteG_any (base g n c i : Nat) (l : List Value) (w : World) (hl : l.length = c * 3) (hA : At w g 24 l.toArray) (hi : i < n) (hnc : n ≤ c) (hn : n ≤ 1000) (hcm : c ≤ maxLen) (hb : base ≤ g)
    (h1 : ∀ u ∈ l.take (n * 3), u.oneCell' = true) :
    Calls Try.prog 30 #[.slice (some ⟨g, 0, none⟩) n c, .int .i64 (i : Nat), .int .i64 ((i + 1 : Nat) : Int)] w fun e w' => e = .returned (.slice (some ⟨g, 0, none⟩) (n - 1) c) ∧
      (∃ l' : List Value, At w' g 24 l'.toArray ∧ l'.length = c * 3 ∧ l'.take ((n - 1) * 3) = l.take (i * 3) ++ (l.take (n * 3)).drop ((i + 1) * 3)) ∧ Below base w w' := by
  unfold maxLen at hcm
  obtain ⟨i0, hi0, hz0, hzs, hzb⟩ := info_parts info_grant
  have t22 := Try.underlying22
  have hgl := hA.lt
  have mixed : Try.prog.follows .mixedOrders = true := by kernel_rfl
  obtain ⟨j, hj⟩ : ∃ j, i + 1 = j := ⟨_, rfl⟩
  rw [hj]
  have hij : i < j := by omega
  have hjn : j ≤ n := by omega
  obtain ⟨mv, hmv⟩ : ∃ mv, mv = (l.take (n * 3)).drop (j * 3) := ⟨_, rfl⟩
  have hml : mv.length = (n - j) * 3 := by rw [hmv, List.length_drop, List.length_take]; omega
  have hm1 : Hid (∀ u ∈ mv, u.oneCell' = true) := by
    show ∀ _ ∈ _, _
    rw [hmv]
    exact fun u hu => h1 u (List.mem_of_mem_drop hu)
  have hmx : ∀ t u, mv[t]? = some u → w.drew.cell? ⟨g, j * 3 + t, none⟩ = some u := fun t u hu => by
    rw [At.cell (show At w.drew g _ _ from hA) (j * 3 + t)]
    rw [hmv, List.getElem?_drop, List.getElem?_take] at hu
    split at hu
    · simpa using hu
    · cases hu
  obtain ⟨A, hAA, hsrc⟩ : ∃ A : Addr, (if c = j then some (⟨g, 0, none⟩ : Addr) else some ⟨g, j * 3, none⟩) = some A ∧ Hid (∀ t u, mv[t]? = some u → w.drew.cell? (A.add t) = some u) := by
    by_cases h : c = j
    · refine ⟨⟨g, 0, none⟩, by simp [h], fun t u hu => ?_⟩
      have h0 : mv.length = 0 := by rw [hml]; omega
      rw [List.length_eq_zero_iff.1 h0] at hu
      simp at hu
    · refine ⟨⟨g, j * 3, none⟩, by simp [h], fun t u hu => ?_⟩
      rw [add_plain]
      exact hmx t u hu
  have s1 : Hid (mv.length = (n - j) * 3) := hml
  have s3 : Hid (∀ t, t < mv.length → (w.drew.cell? ⟨g, 0 + i * 3 + t, none⟩).isSome = true ∧ w.drew.frozen? ⟨g, 0 + i * 3 + t, none⟩ = false) := by
    show ∀ _, _ → _
    intro t ht
    rw [hml] at ht
    refine ⟨?_, At.unfrozen (show At w.drew g _ _ from hA) _⟩
    rw [At.cell (show At w.drew g _ _ from hA)]
    simp
    omega
  obtain ⟨W1, hW1⟩ : ∃ W1, W1 = w.drew.setCells g (0 + i * 3) mv := ⟨_, rfl⟩
  have hA1 : At W1 g 24 (layL (0 + i * 3) l mv).toArray := by rw [hW1]; exact At.sets mv _ l w.drew hA (by rw [hml]; omega)
  have hL1 : (layL (0 + i * 3) l mv).length = c * 3 := by rw [layL_len (by rw [hml]; omega)]; exact hl
  have hb1 : Below base w W1 := by rw [hW1]; exact below_sets hb _ _ _ (Below.refl base w).drew
  have hW : Hid (W1 = w.drew.setCells g (0 + i * 3) mv) := hW1
  obtain ⟨L1, hL1e⟩ : ∃ L1, L1 = layL (0 + i * 3) l mv := ⟨_, rfl⟩
  rw [← hL1e] at hA1 hL1
  have hk : n - (i + (n - j)) = 1 := by omega
  have hzl : zeroG.length = 3 := rfl
  have hcl : ∀ ty, (Builtin.clear_ #[22] ty #[.slice (some ⟨g, (i + (n - j)) * 3, none⟩) (n - (i + (n - j))) (c - (i + (n - j)))]).run Try.prog W1 = .ok (.tuple #[]) (W1.setCells g ((i + (n - j)) * 3) zeroG) :=
    fun ty => run_clearG W1 ty g _ _ _ zeroG (by omega) (by rw [hk]; exact zero_cells1) (fun u hu => by simp [zeroG] at hu; rcases hu with rfl | rfl | rfl <;> rfl)
      (fun t ht => by rw [At.cell hA1]; simp; rw [hzl] at ht; omega) (fun t _ => At.unfrozen hA1 _)
  rw [hk] at hcl
  have HA2 := Lib.hid (At.sets zeroG ((i + (n - j)) * 3) L1 W1 hA1 (by rw [hzl]; omega))
  have hb2 : Below base w (W1.setCells g ((i + (n - j)) * 3) zeroG) := below_sets hb _ _ _ hb1
  have HE : Hid ((layL ((i + (n - j)) * 3) L1 zeroG).length = c * 3 ∧ (layL ((i + (n - j)) * 3) L1 zeroG).take ((n - 1) * 3) = l.take (i * 3) ++ (l.take (n * 3)).drop (j * 3)) := by
    refine ⟨by rw [layL_len (by rw [hzl]; omega)]; exact hL1, ?_⟩
    rw [show (n - 1) * 3 = (i + (n - j)) * 3 by omega, ← hmv]
    show ((L1.take ((i + (n - j)) * 3) ++ zeroG) ++ _).take ((i + (n - j)) * 3) = _
    rw [List.append_assoc, List.take_left' (by rw [List.length_take]; omega), hL1e]
    show (l.take (0 + i * 3) ++ mv ++ _).take ((i + (n - j)) * 3) = _
    rw [List.take_left' (by rw [List.length_append, List.length_take, hml]; omega), Nat.zero_add]
  have hjc : j ≤ c := by omega
  have hic : i ≤ c := by omega
  have hlen : i + (n - j) = n - 1 := by omega
  have HL := Lib.hid hlen
  have HJ := Lib.hid hj
  clear hW1 hL1e hA1 hmx hmv hml hL1 hlen hj hb1
  go_enter Try.func30, Try.ntmps30
  go_wp2_with fail
  go_region_law_o (refine step_append_room rfl (.tmp 22) (.tmp 25) 22 rfl 24 i0 3 t22 hi0 hzs g 0 i c (by simp [Act.eval, Act.put]) A (n - j) (c - j) mv (by simp [Act.eval, Act.put]) s1.out hsrc.out hm1.out (by omega) s3.out ?_; rw [← hW.out])
  go_wp2_with fail
  go_ret
  exact ⟨by rw [HL.out]; rfl, ⟨_, HA2.out, HE.out.1, HE.out.2⟩, hb2⟩
end Go.Proofs.Yteehccklnidofaa

namespace Go.Proofs.Yteehccklnidofaa
open Go.RowKit

theorem own_below {w w' : World} {base : Nat} {e : TypeId} {size n : Nat} {v : Value} {xs : List Value} (h : w.ownsRow base e size v n xs) (hb : Below w.heap.size w w') : w'.ownsRow base e size v n xs := by
  refine ⟨h.1, ?_⟩
  rcases h.2 with k | ⟨g, cap, cur, rfl, hg, hh, k⟩
  · exact .inl k
  · exact .inr ⟨g, cap, cur, rfl, hg, (hb.block g (Array.getElem?_eq_some_iff.1 hh).1).trans hh, k⟩
theorem own_mono {w : World} {base base' : Nat} {e : TypeId} {size n : Nat} {v : Value} {xs : List Value} (h : w.ownsRow base e size v n xs) (hb : base' ≤ base) : w.ownsRow base' e size v n xs := by
  refine ⟨h.1, ?_⟩
  rcases h.2 with k | ⟨g, cap, cur, rfl, hg, k⟩
  · exact .inl k
  · exact .inr ⟨g, cap, cur, rfl, Nat.le_trans hb hg, k⟩
def anI (a x : Int) : Int := Go.bits BinOp.andNot IntKind.i64 a x
/-- What Take makes of a list. -/
def TakeR (gs : List Gr) (g : Gr) (er : Int) (gs' : List Gr) : Prop :=
  (goodG g = false ∧ er = 1 ∧ gs' = []) ∨ (goodG g = true ∧ er = 0 ∧ ∃ i b, PlaceG gs g.role g.table i b ∧
    ((b = false ∧ gs' = gs) ∨ (b = true ∧ anI (atG gs i).bits g.bits ≠ 0 ∧ gs' = gs.set i ⟨(atG gs i).role, (atG gs i).table, anI (atG gs i).bits g.bits⟩) ∨
     (b = true ∧ anI (atG gs i).bits g.bits = 0 ∧ gs' = gs.take i ++ gs.drop (i + 1))))
def TakeE (gs : List Gr) (g : Gr) (B : Nat) (e : Ending) (w' : World) : Prop := ∃ v er gs', e = .returned (.tuple #[v, .int .i64 er]) ∧ w'.ownsRow B 24 3 v gs'.length (gs'.flatMap Gr.cs) ∧ TakeR gs g er gs'

set_option maxRecDepth 100000 in
set_option maxHeartbeats 3200000 in
theorem gtake_any (A : Option Addr) (n cap : Nat) (gs : List Gr) (g : Gr) (w : World) (hr : RowG w A n gs) (hn : n ≤ 1000) (hg : g.Ok) :
    Calls Try.prog 15 #[.slice A n cap, g.val] w fun e w' => TakeE gs g w.heap.size e w' ∧ Below w.heap.size w w' := by
  have hgl := hr.1
  have b0 := below_box w (.cells #[.int .i64 g.role, .string ⟨g.table.toArray⟩, .int .i64 g.bits] 24)
  have aG := At.fresh w 24 #[.int .i64 g.role, .string ⟨g.table.toArray⟩, .int .i64 g.bits]
  have hG := fun w' => ggood_any g w' hg.table
  unfold Gr.val at hG ⊢
  cases hgd : goodG g with
  | false =>
    rw [hgd] at hG
    have HE : Hid (∀ w', TakeE gs g w.heap.size (.returned (.tuple #[.slice none 0 0, .int .i64 1])) w') := by
      show ∀ _, _
      exact fun w' => ⟨_, _, [], rfl, World.ownsRow_nil _ _ _ 3, .inl ⟨hgd, rfl, rfl⟩⟩
    go_enter Try.func15, Try.ntmps15
    go_wp2_with fail
    refine (hG _).mono ?_
    rintro e w1 ⟨rfl, b1⟩
    have hb1 := below_in b0 b1
    go_wp2_with fail
    exact bodyPost_ret (v := .tuple #[.slice none 0 0, .int .i64 1]) (by simp [results, Try.results15, go_sem]) rfl ⟨HE.out _, hb1⟩
  | true =>
    rw [hgd] at hG
    go_enter Try.func15, Try.ntmps15
    go_wp2_with fail
    refine (hG _).mono ?_
    rintro e w1 ⟨rfl, b1⟩
    have hb1 := below_in b0 b1
    have aG1 := aG.below b1 aG.lt
    have hCl := cloneG_any A n cap gs w1 hgl (by omega) (rowG_cells (hr.below hb1))
    go_wp2_with fail
    refine hCl.mono ?_
    rintro e w3 ⟨v, rfl, hown, b3⟩
    clear hCl
    have hb3 := below_in hb1 b3
    have aG3 := aG1.below b3 aG1.lt
    obtain ⟨A', c, rfl, hrow, hnc⟩ : ∃ A' c, v = .slice A' n c ∧ RowG w3 A' n gs ∧ n ≤ c := by
      have h1 : w3.ownsRow w1.heap.size 24 3 v gs.length (gs.flatMap Gr.cs) := by rw [hgl]; exact hown
      have h2 := own_rowG h1 hr.2.1
      rw [hgl] at h2
      exact h2
    have hF := gfind_any A' n c gs g.role g.table w3 hrow (by unfold maxLen; omega)
    obtain ⟨c0, c1, c2⟩ := aG3.tri0
    have HOW := Lib.hid hown
    clear hown
    go_wp2_with fail
    refine hF.mono ?_
    rintro e w4 ⟨⟨i, B, rfl, hp⟩, b4⟩
    clear hF c0 c1 c2
    have hb4 := below_in hb3 b4
    have aG4 := aG3.below b4 aG3.lt
    have how := own_below HOW.out b4
    clear HOW
    cases B with
    | false =>
      have HE : Hid (TakeE gs g w.heap.size (.returned (.tuple #[.slice A' n c, .int .i64 0])) w4) := by
        refine ⟨_, _, gs, rfl, ?_, .inr ⟨hgd, rfl, i, false, hp, .inl ⟨rfl, rfl⟩⟩⟩
        rw [hgl]
        exact own_mono how hb1.size
      clear how
      go_wp2_with fail
      exact bodyPost_ret (v := .tuple #[.slice A' n c, .int .i64 0]) (by simp [results, Try.results15, go_sem]) rfl ⟨HE.out, hb4⟩
    | true =>
      have hin := (hp.yes rfl).1
      obtain ⟨q0, q1, q2⟩ := aG4.tri0
      obtain ⟨h, c2, l, hv, hbh, hA, hnc2, hcm, hll, ht⟩ := own_at how (by omega)
      injection hv with hv1 hv2 hv3
      subst hv1
      subst hv3
      clear how hrow hnc hv2
      unfold maxLen at hcm
      have hlt3 : i * 3 + 2 < l.length := by rw [hll]; omega
      have hcell : w4.cell? ⟨h, i * 3 + 2, none⟩ = some (.int .i64 (atG gs i).bits) := by
        rw [At.cell hA (i * 3 + 2)]
        have h1 : (l.take (n * 3))[i * 3 + 2]? = l[i * 3 + 2]? := by rw [List.getElem?_take, if_pos (by omega)]
        have h2 := flat_at Gr.cs 3 default (fun _ => rfl) gs i hin 2 (by omega)
        rw [← ht, h1] at h2
        simp only [List.getElem?_toArray]
        rw [h2]
        rfl
      have hfz := At.unfrozen hA (i * 3 + 2)
      have hiI : (i : Int) < (n : Int) := by omega
      have hnI : I64 (n : Int) := by unfold I64; omega
      have hneh : w.heap.size ≠ h := by
        have := aG1.lt
        omega
      obtain ⟨nb, hnb⟩ : ∃ nb, anI (atG gs i).bits g.bits = nb := ⟨_, rfl⟩
      have hA2 : At (w4.drew.setCell ⟨h, i * 3 + 2, none⟩ (.int .i64 nb)) h 24 (l.set (i * 3 + 2) (.int .i64 nb)).toArray := by
        have := At.put (show At w4.drew h _ _ from hA) (i * 3 + 2) (.int .i64 nb)
        rw [List.setIfInBounds_toArray] at this
        exact this
      have hbf : Below w.heap.size w (w4.drew.setCell ⟨h, i * 3 + 2, none⟩ (.int .i64 nb)) := hb4.drew.trans ⟨rfl, rfl, rfl, by simp [World.setCell], fun k hk => Below.heap_setCell _ _ _ _ (fun e => by simp at e; have := hb1.size; omega)⟩
      have ht2 : (l.set (i * 3 + 2) (.int .i64 nb)).take (n * 3) = (gs.set i ⟨(atG gs i).role, (atG gs i).table, nb⟩).flatMap Gr.cs := by
        rw [List.take_set, ht]
        exact flat_set3 gs i _ hin
      have hl2 : (l.set (i * 3 + 2) (.int .i64 nb)).length = c * 3 := by rw [List.length_set]; exact hll
      have hc2 : (w4.drew.setCell ⟨h, i * 3 + 2, none⟩ (.int .i64 nb)).cell? ⟨h, i * 3 + 2, none⟩ = some (.int .i64 nb) := by
        rw [At.cell hA2 (i * 3 + 2)]
        simp [hlt3]
      have HP := Lib.hid hp
      have HT := Lib.hid ht2
      have HN := Lib.hid hnb
      obtain ⟨L2, hL2⟩ : ∃ L2, L2 = l.set (i * 3 + 2) (.int .i64 nb) := ⟨_, rfl⟩
      rw [← hL2] at hA2 hl2
      have HL := Lib.hid hL2
      clear hp ht2 hL2 hA ht
      unfold anI at hnb
      unfold atG at hcell hnb
      generalize (gs.getD i default).bits = bb at hcell hnb
      have hcd : w4.drew.cell? ⟨h, i * 3 + 2, none⟩ = some (.int .i64 bb) := hcell
      have hfd : w4.drew.frozen? ⟨h, i * 3 + 2, none⟩ = false := hfz
      have q2d : w4.drew.cell? ⟨w.heap.size, 2, none⟩ = some (.int .i64 g.bits) := q2
      have HC : Hid (nb ≠ 0 → TakeE gs g w.heap.size (.returned (.tuple #[.slice (some ⟨h, 0, none⟩) n c, .int .i64 0])) (w4.drew.setCell ⟨h, i * 3 + 2, none⟩ (.int .i64 nb))) := by
        show _ → _
        intro hz
        refine ⟨_, _, gs.set i ⟨(atG gs i).role, (atG gs i).table, nb⟩, rfl, ?_, .inr ⟨hgd, rfl, i, true, HP.out, .inr (.inl ⟨rfl, by rw [HN.out]; exact hz, by rw [HN.out]⟩)⟩⟩
        rw [List.length_set, hgl]
        exact own_mk (by rw [List.length_set, hgl]) (Nat.le_trans hb1.size hbh) hA2 hnc2 (by unfold maxLen; omega) hl2 (by rw [HL.out]; exact HT.out)
      have HDl : Hid (nb = 0 → Calls Try.prog 30 #[.slice (some ⟨h, 0, none⟩) n c, .int .i64 (i : Nat), .int .i64 ((i : Int) + 1)] (w4.drew.setCell ⟨h, i * 3 + 2, none⟩ (.int .i64 nb)) fun e w' => ∃ v, e = .returned v ∧ (∀ er, er = (0 : Int) → TakeE gs g w.heap.size (.returned (.tuple #[v, .int .i64 er])) w') ∧ Below w.heap.size w w') := by
        show _ → _
        intro hz
        have hD := deleteG_any w.heap.size h n c i L2 _ hl2 hA2 (by omega) hnc2 hn (by unfold maxLen; omega) (by have := hb1.size; omega) (fun u hu => by
          rw [HL.out, HT.out] at hu
          obtain ⟨a, _, ha⟩ := List.mem_flatMap.1 hu
          exact cs_one a u ha)
        rw [show ((i + 1 : Nat) : Int) = (i : Int) + 1 by omega] at hD
        refine hD.mono ?_
        rintro e w' ⟨rfl, ⟨l', k1, k2, k3⟩, k4⟩
        refine ⟨_, rfl, fun er her => ?_, hbf.trans k4⟩
        subst her
        refine ⟨_, _, gs.take i ++ gs.drop (i + 1), rfl, ?_, .inr ⟨hgd, rfl, i, true, HP.out, .inr (.inr ⟨rfl, by rw [HN.out]; exact hz, rfl⟩)⟩⟩
        have hlen : (gs.take i ++ gs.drop (i + 1)).length = n - 1 := by simp; omega
        rw [hlen]
        refine own_mk hlen (by have := hb1.size; omega) k1 (by omega) (by unfold maxLen; omega) k2 ?_
        have ek := HT.out
        rw [← HL.out] at ek
        rw [k3, show L2.take (i * 3) = (L2.take (n * 3)).take (i * 3) by rw [List.take_take, Nat.min_eq_left (by omega)], ek, flat_take3, flat_drop3, List.take_set_of_le (Nat.le_refl _), List.drop_set_of_lt (by omega), List.flatMap_append]
      subst hnb
      clear hG
      go_wp2_with fail
      go_region
      all_goals go_wp2_with fail
      all_goals first
        | exact bodyPost_ret (v := .tuple #[.slice (some ⟨h, 0, none⟩) n c, .int .i64 0]) (by simp [results, Try.results15, go_sem]) rfl ⟨HC.out (by simpa using ‹(Go.bits BinOp.andNot IntKind.i64 bb g.bits == 0) = false›), hbf⟩
        | (refine (HDl.out (by simpa using ‹(Go.bits BinOp.andNot IntKind.i64 bb g.bits == 0) = true›)).mono ?_
           rintro e w5 ⟨v, rfl, h5, b5⟩
           have H5 := Lib.hid (h5 0 rfl)
           clear h5
           go_wp2_with fail
           exact bodyPost_ret (v := .tuple #[v, .int .i64 0]) (by simp [results, Try.results15, go_sem]) rfl ⟨H5.out, b5⟩)
end Go.Proofs.Yteehccklnidofaa

namespace Go.Proofs.Yteehccklnidofaa

theorem anI_nat {a b : Nat} (ha : a < 32) (_hb : b < 32) : ∃ k : Nat, anI (a : Int) (b : Int) = (k : Int) ∧ k = (BitVec.ofNat 64 a &&& ~~~ BitVec.ofNat 64 b).toNat ∧ k ≤ a := by
  have hle : (BitVec.ofNat 64 a &&& ~~~ BitVec.ofNat 64 b).toNat ≤ a := by
    rw [BitVec.toNat_and]
    refine Nat.le_trans Nat.and_le_left ?_
    rw [BitVec.toNat_ofNat]
    exact Nat.mod_le _ _
  refine ⟨_, ?_, rfl, hle⟩
  show IntKind.i64.wrap ((BitVec.ofInt 64 (a : Int) &&& ~~~ BitVec.ofInt 64 (b : Int)).toNat : Int) = _
  rw [BitVec.ofInt_natCast, BitVec.ofInt_natCast, IntKind.wrap_i64] <;> omega
theorem five_an {a b : Int} (ha : Five a) (hb : Five b) : Five (anI a b) := by
  obtain ⟨m, rfl, hm⟩ := five_nat ha
  obtain ⟨n, rfl, hn⟩ := five_nat hb
  obtain ⟨k, e, -, hk⟩ := anI_nat hm hn
  rw [e]
  exact ⟨by omega, by omega⟩
theorem an_zero {b : Int} (hb : Five b) : anI 0 b = 0 := by
  obtain ⟨n, rfl, hn⟩ := five_nat hb
  obtain ⟨k, e, -, hk⟩ := anI_nat (a := 0) (by omega) hn
  rw [show (0 : Int) = ((0 : Nat) : Int) from rfl, e]
  omega
/-- Lists alike but for one key give the same by every other. -/
theorem bits_keep {gs gs' : List Gr} {R : Int} {T : List UInt8} (hg : gs.Pairwise (fun a b => ltG a b = true)) (hg' : gs'.Pairwise (fun a b => ltG a b = true))
    (h : ∀ x, ¬ (x.role = R ∧ x.table = T) → (x ∈ gs' ↔ x ∈ gs)) (r : Int) (t : List UInt8) (e : ¬ (r = R ∧ t = T)) : bitsG r t gs' = bitsG r t gs := by
  by_cases h0 : bitsG r t gs = 0
  · rw [h0]
    by_cases h1 : bitsG r t gs' = 0
    · exact h1
    · obtain ⟨x, k1, k2, k3, k4⟩ := bits_some h1
      have hx := (h x (by rw [k2, k3]; exact e)).1 k1
      have := bits_mem hg hx
      rw [k2, k3, h0] at this
      rw [← k4, ← this]
  · obtain ⟨x, k1, k2, k3, k4⟩ := bits_some h0
    have hx := (h x (by rw [k2, k3]; exact e)).2 k1
    have := bits_mem hg' hx
    rw [k2, k3] at this
    rw [this, k4]
theorem del_spec {xs ys : List Gr} {z : Gr} (h : (xs ++ z :: ys).Pairwise (fun a b => ltG a b = true)) :
    (xs ++ ys).Pairwise (fun a b => ltG a b = true) ∧ ∀ r t, bitsG r t (xs ++ ys) = if r = z.role ∧ t = z.table then 0 else bitsG r t (xs ++ z :: ys) := by
  have h0 := h
  rw [List.pairwise_append, List.pairwise_cons] at h0
  obtain ⟨p1, ⟨p2, p3⟩, p4⟩ := h0
  have hp : (xs ++ ys).Pairwise (fun a b => ltG a b = true) := List.pairwise_append.2 ⟨p1, p3, fun a ha c hc => p4 a ha c (List.mem_cons_of_mem _ hc)⟩
  refine ⟨hp, fun r t => ?_⟩
  by_cases e : r = z.role ∧ t = z.table
  · rw [if_pos e, e.1, e.2]
    refine bits_none fun x hx hm => ?_
    rcases List.mem_append.1 hx with hx | hx
    · exact ltK_ne (p4 x hx z (List.mem_cons_self ..)) hm
    · exact ltK_ne (p2 x hx) ⟨hm.1.symm, hm.2.symm⟩
  · rw [if_neg e]
    refine bits_keep h hp (fun x hx => ?_) r t e
    rw [List.mem_append, List.mem_append, List.mem_cons]
    refine ⟨fun k => k.elim .inl (fun k => .inr (.inr k)), fun k => ?_⟩
    rcases k with k | k | k
    · exact .inl k
    · exact absurd (by rw [k]; exact ⟨rfl, rfl⟩) hx
    · exact .inr k
theorem split_at {gs : List Gr} {i : Nat} (hi : i < gs.length) : gs = gs.take i ++ atG gs i :: gs.drop (i + 1) := by
  have e : atG gs i = gs[i] := by rw [atG, List.getD_eq_getElem?_getD, List.getElem?_eq_getElem hi]; rfl
  rw [e, ← List.drop_eq_getElem_cons hi, List.take_append_drop]
/-- Take, behind: sorted; who is named has it no more, all others what they had. -/
theorem take_spec {gs gs' : List Gr} {g : Gr} (hs : SortedG gs) (h : TakeR gs g 0 gs') : SortedG gs' ∧ gs'.length ≤ gs.length ∧ ∀ r t, bitsG r t gs' = if r = g.role ∧ t = g.table then anI (bitsG r t gs) g.bits else bitsG r t gs := by
  obtain ⟨hl, hgd, hpw⟩ := (sorted_pw gs).1 hs
  rcases h with ⟨_, h, _⟩ | ⟨hg, -, i, b, hp, h⟩
  · cases h
  rcases h with ⟨rfl, rfl⟩ | ⟨rfl, hz, rfl⟩ | ⟨rfl, hz, rfl⟩
  · refine ⟨hs, Nat.le_refl _, fun r t => ?_⟩
    by_cases e : r = g.role ∧ t = g.table
    · have h0 : bitsG r t gs' = 0 := bits_none fun x hx hm => by
        obtain ⟨j, hj, rfl⟩ := List.getElem_of_mem hx
        refine place_none hp hs j hj ?_
        rw [atG, List.getD_eq_getElem?_getD, List.getElem?_eq_getElem hj]
        exact ⟨hm.1.trans e.1, hm.2.trans e.2⟩
      rw [if_pos e, h0, an_zero (five_of hg)]
    · rw [if_neg e]
  · obtain ⟨hi, hr, ht⟩ := hp.yes rfl
    have hmi : atG gs i ∈ gs := getD_in2 hi
    have hgi := hgd _ hmi
    have hfi := five_an (five_of hgi) (five_of hg)
    have hs' : SortedG (gs.set i ⟨(atG gs i).role, (atG gs i).table, anI (atG gs i).bits g.bits⟩) := by
      refine ⟨by rw [List.length_set]; exact hl, fun j hj => ?_, fun j hj k hk => ?_⟩
      · rw [List.length_set] at hj
        rw [at_set gs i j _ hi]
        split
        · obtain ⟨q1, q2, q3⟩ := good_parts hgi
          unfold goodG
          simp only [Bool.and_eq_true, decide_eq_true_eq]
          exact ⟨q1, q2, by have := hfi.1; omega, hfi.2⟩
        · exact hs.2.1 j hj
      · rw [List.length_set] at hj
        rw [at_set gs i j _ hi, at_set gs i k _ hi]
        have h0 := hs.2.2 j hj k hk
        by_cases e1 : j = i
        · by_cases e2 : k = i
          · omega
          · rw [if_pos e1, if_neg e2]
            rw [e1] at h0
            exact h0
        · by_cases e2 : k = i
          · rw [if_neg e1, if_pos e2]
            rw [e2] at h0
            exact h0
          · rw [if_neg e1, if_neg e2]; exact h0
    refine ⟨hs', by rw [List.length_set]; exact Nat.le_refl _, fun r t => ?_⟩
    have hpw' := ((sorted_pw _).1 hs').2.2
    rw [bits_change hpw hpw' (List.mem_set hi _) (fun x hx => ?_) r t]
    · simp only
      rw [hr, ht]
      by_cases e : r = g.role ∧ t = g.table
      · rw [if_pos e, if_pos e, e.1, e.2]
        have := bits_mem hpw hmi
        rw [hr, ht] at this
        rw [this]
      · rw [if_neg e, if_neg e]
    · simp only at hx
      constructor
      · intro h
        rcases List.mem_or_eq_of_mem_set h with h | h
        · exact h
        · exact absurd (by rw [h]; exact ⟨rfl, rfl⟩) hx
      · intro h
        obtain ⟨j, hj, rfl⟩ := List.getElem_of_mem h
        have hji : j ≠ i := fun e => hx (by
          subst e
          rw [atG, List.getD_eq_getElem?_getD, List.getElem?_eq_getElem hj]
          exact ⟨rfl, rfl⟩)
        have : (gs.set i ⟨(atG gs i).role, (atG gs i).table, anI (atG gs i).bits g.bits⟩)[j]'(by rw [List.length_set]; exact hj) = gs[j] := List.getElem_set_ne (fun e => hji e.symm) _
        rw [← this]
        exact List.getElem_mem _
  · obtain ⟨hi, hr, ht⟩ := hp.yes rfl
    have hmi : atG gs i ∈ gs := getD_in2 hi
    have hsp := split_at hi
    have hpw2 := hpw
    rw [hsp] at hpw2
    obtain ⟨d1, d2⟩ := del_spec hpw2
    refine ⟨(sorted_pw _).2 ⟨by simp; omega, fun x hx => hgd x ?_, d1⟩, by simp; omega, fun r t => ?_⟩
    · rcases List.mem_append.1 hx with hx | hx
      · exact List.mem_of_mem_take hx
      · exact List.mem_of_mem_drop hx
    · rw [d2, ← hsp, hr, ht]
      by_cases e : r = g.role ∧ t = g.table
      · rw [if_pos e, if_pos e, e.1, e.2]
        have := bits_mem hpw hmi
        rw [hr, ht] at this
        rw [this, hz]
      · rw [if_neg e, if_neg e]
end Go.Proofs.Yteehccklnidofaa

namespace Go.Proofs.Yteehccklnidofaa

theorem hasG_bits {gs : List Gr} (hs : SortedG gs) (r : Int) (t : List UInt8) (x : Int) : hasG gs r t x ↔ bitsG r t gs ≠ 0 ∧ andI (bitsG r t gs) x = x := by
  obtain ⟨-, hgd, hpw⟩ := (sorted_pw gs).1 hs
  constructor
  · rintro ⟨j, hj, ⟨h1, h2⟩, h3⟩
    have hm : atG gs j ∈ gs := getD_in2 hj
    have hb := bits_mem hpw hm
    rw [h1, h2] at hb
    have hp := (good_parts (hgd _ hm)).2.2.1
    rw [hb]
    exact ⟨by omega, h3⟩
  · rintro ⟨h0, h1⟩
    obtain ⟨y, hy, k1, k2, k3⟩ := bits_some h0
    obtain ⟨j, hj, rfl⟩ := List.getElem_of_mem hy
    have e : atG gs j = gs[j] := by rw [atG, List.getD_eq_getElem?_getD, List.getElem?_eq_getElem hj]; rfl
    exact ⟨j, hj, by rw [e]; exact ⟨k1, k2⟩, by rw [e, k3]; exact h1⟩
theorem and_or {a b : Int} (ha : Five a) (hb : Five b) : andI (orI a b) b = b := by
  obtain ⟨m, rfl, hm⟩ := five_nat ha
  obtain ⟨n, rfl, hn⟩ := five_nat hb
  rw [orI_nat hm hn]
  show IntKind.i64.wrap ((BitVec.ofInt 64 ((m ||| n : Nat) : Int) &&& BitVec.ofInt 64 (n : Int)).toNat : Int) = _
  rw [BitVec.ofInt_natCast, BitVec.ofInt_natCast]
  have e : BitVec.ofNat 64 (m ||| n) &&& BitVec.ofNat 64 n = BitVec.ofNat 64 n := by
    rw [BitVec.ofNat_or]
    apply BitVec.eq_of_getLsbD_eq
    intro i hi
    simp only [BitVec.getLsbD_and, BitVec.getLsbD_or]
    cases (BitVec.ofNat 64 m).getLsbD i <;> cases (BitVec.ofNat 64 n).getLsbD i <;> rfl
  rw [e, BitVec.toNat_ofNat, Nat.mod_eq_of_lt (by omega), IntKind.wrap_i64] <;> omega
theorem and_an {a b : Int} (ha : Five a) (hb : Five b) : andI (anI a b) b = 0 := by
  obtain ⟨m, rfl, hm⟩ := five_nat ha
  obtain ⟨n, rfl, hn⟩ := five_nat hb
  obtain ⟨k, e, hk, -⟩ := anI_nat hm hn
  rw [e]
  show IntKind.i64.wrap ((BitVec.ofInt 64 (k : Int) &&& BitVec.ofInt 64 (n : Int)).toNat : Int) = _
  rw [BitVec.ofInt_natCast, BitVec.ofInt_natCast, hk, BitVec.ofNat_toNat, BitVec.setWidth_eq]
  have e : BitVec.ofNat 64 m &&& ~~~ BitVec.ofNat 64 n &&& BitVec.ofNat 64 n = 0#64 := by
    apply BitVec.eq_of_getLsbD_eq
    intro i hi
    simp only [BitVec.getLsbD_and, BitVec.getLsbD_not, BitVec.getLsbD_zero]
    cases (BitVec.ofNat 64 m).getLsbD i <;> cases (BitVec.ofNat 64 n).getLsbD i <;> simp
  rw [e]
  rfl
/-- A schema with other grants. -/
def Sc.give (s : Sc) (A : Option Addr) (n c : Nat) (gs : List Gr) : Sc := { s with gA := A, gn := n, gcap := c, grants := gs }
theorem give_in {w : World} {s : Sc} (h : InS w s) {A : Option Addr} {n : Nat} (c : Nat) {gs : List Gr} (hr : RowG w A n gs) (hn : n ≤ maxLen) : InS w (s.give A n c gs) := ⟨h.ver, h.tmax, hn, h.tabs, hr⟩
section
variable {s s1 s2 : Sc} {g : Gr}
theorem give_may (ht : ∀ t, tabAt s1 t = tabAt s t) (hs : SortedG s.grants) (hs1 : SortedG s1.grants) (hg : goodG g = true) (hf : tabAt s g.table ≠ none)
    (h1 : ∀ r t, bitsG r t s1.grants = if r = g.role ∧ t = g.table then orI (bitsG r t s.grants) g.bits else bitsG r t s.grants) : MayP s1 g.role g.table g.bits := by
  obtain ⟨q1, q2, q3⟩ := good_parts hg
  have hfv := bits_five ((sorted_pw _).1 hs).2.1 g.role g.table
  refine ⟨by rw [ht]; exact hf, ⟨by omega, q1.2⟩, .inr ((hasG_bits hs1 _ _ _).2 ?_)⟩
  rw [h1, if_pos ⟨rfl, rfl⟩]
  have := or_pos hfv (five_of hg) q3.1
  exact ⟨by omega, and_or hfv (five_of hg)⟩
theorem taken_may (ho : ∀ r t, ownsS s2 r t = ownsS s r t) (hs1 : SortedG s1.grants) (hs2 : SortedG s2.grants) (hg : goodG g = true)
    (h2 : ∀ r t, bitsG r t s2.grants = if r = g.role ∧ t = g.table then anI (bitsG r t s1.grants) g.bits else bitsG r t s1.grants) : MayP s2 g.role g.table g.bits ↔ ownsS s g.role g.table = true := by
  have hfv := bits_five ((sorted_pw _).1 hs1).2.1 g.role g.table
  obtain ⟨q1, q2, q3⟩ := good_parts hg
  constructor
  · rintro ⟨-, -, h | h⟩
    · rw [← ho]; exact h
    · obtain ⟨-, h0⟩ := (hasG_bits hs2 _ _ _).1 h
      rw [h2, if_pos ⟨rfl, rfl⟩, and_an hfv (five_of hg)] at h0
      omega
  · intro h
    exact owns_may (by rw [ho]; exact h) _
theorem other_may (ht : ∀ t, tabAt s1 t = tabAt s t) (ho : ∀ r t, ownsS s1 r t = ownsS s r t) (hs : SortedG s.grants) (hs1 : SortedG s1.grants) {r : Int} {t : List UInt8} (hb : bitsG r t s1.grants = bitsG r t s.grants) (x : Int) : MayP s1 r t x ↔ MayP s r t x := by
  unfold MayP
  rw [ht, ho, hasG_bits hs, hasG_bits hs1, hb]
end
end Go.Proofs.Yteehccklnidofaa
