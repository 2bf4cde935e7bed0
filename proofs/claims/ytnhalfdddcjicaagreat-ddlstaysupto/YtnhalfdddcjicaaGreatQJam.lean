/- The walks of the laws' small functions: Size, long, Great, great, lit. -/
/- The walk of the reference's Great: it returns. -/
/- Rows of structs that a call appends to: one element more; the cells of a row. -/
/- Expressions alike; the walks of sameExpr and SameTable where they are. -/
import Derived.Test.YtnhalfdddcjicaaGreatQExJ
import Derived.Test.YtnhalfdddcjicaaGreatQJak
import Derived.Test.YtnhalfdddcjicaaGreatQJaa
import Derived.StillTailTactics
namespace Go.Proofs.YtnhalfdddcjicaaGreat
open Go.RowKit

/-- Some two numbers. -/
def IsPair (e : Ending) : Prop := ∃ a b : Int, e = .returned (.tuple #[.int .i64 a, .int .i64 b])
def IsBool (e : Ending) : Prop := ∃ b : Bool, e = .returned (.bool b)
def IsI (v : Value) : Prop := ∃ a : Int, v = .int .i64 a

set_option maxRecDepth 100000 in
set_option maxHeartbeats 1600000 in
theorem size_any (e : Ex) : ∀ (w : World), InE w e → Calls Tryz.prog 68 #[e.val] w fun en w' => IsPair en ∧ Below w.heap.size w w' := by
  induction e with
  | nil => intro w h; exact h.elim
  | mk op col v B p cp arg ih =>
    intro w hin
    rw [InE] at hin
    obtain ⟨-, -, -, hp, harg⟩ := hin
    unfold maxLen at hp
    simp only [Ex.val, Ex.op, Ex.col, Ex.v, Ex.A, Ex.n, Ex.cap]
    have hb := below_box w (.cells #[.int .i64 op, .int .i64 col, .int .i64 v.kind, .int .i64 v.num, .string ⟨v.text.toArray⟩, .slice B p cp] 67)
    go_enter Tryz.func68, Tryz.ntmps68
    go_wp2
    go_loopw [4, 5, 13] (fun nv dv i wr => ∃ (k : Nat) (a d : Int), k ≤ p ∧ i = .int .i64 k ∧ nv = .int .i64 a ∧ dv = .int .i64 d ∧ Below w.heap.size w wr) (fun _ _ i _ => p - (intOf i).toNat)
    case atStart => exact ⟨0, 1, 0, by omega, rfl, rfl, rfl, hb⟩
    case round =>
      obtain ⟨k, a, d, hk, rfl, rfl, rfl, hbr⟩ := hrel
      by_cases hlt : k < p
      · obtain ⟨b, off, rfl, hbl, hcell⟩ := harg (by omega)
        have hcl := (hcell k hlt).1.below hbr hbl
        have hik := (hcell k hlt).2.below hbr
        have iha := fun w' (b' : Below wr.heap.size wr w') => ih k w' (hik.below b')
        unfold Ex.val at iha
        clear ih hcell hik harg
        obtain ⟨c0, c1, c2, c3, c4, c5⟩ := hcl
        have hbx := below_box wr (.cells #[.int .i64 (arg k).op, .int .i64 (arg k).col, .int .i64 (arg k).v.kind, .int .i64 (arg k).v.num, .string ⟨(arg k).v.text.toArray⟩, .slice (arg k).A (arg k).n (arg k).cap] 67)
        go_wp2_with fail
        refine (iha _ hbx).mono ?_
        rintro e w2 ⟨⟨y, z, rfl⟩, b2⟩
        have hb2 := below_in hbr (below_in hbx b2)
        go_wp2_with fail
        exact ⟨⟨k + 1, _, _, by omega, by go_num, rfl, rfl, hb2⟩, by simp [intOf]; omega⟩
      · go_wp2
        refine bodyPost_ret (results_tmp2 rfl _ _ _) rfl ⟨⟨_, _, rfl⟩, hbr⟩
set_option maxRecDepth 100000 in
set_option maxHeartbeats 1600000 in
theorem long_any (e : Ex) : ∀ (w : World), InE w e → Calls Tryz.prog 69 #[e.val] w fun en w' => IsBool en ∧ Below w.heap.size w w' := by
  induction e with
  | nil => intro w h; exact h.elim
  | mk op col v B p cp arg ih =>
    intro w hin
    rw [InE] at hin
    obtain ⟨-, -, hv, hp, harg⟩ := hin
    have hvt := hv.text
    unfold maxLen at hp hvt
    obtain ⟨vk, vn, vt⟩ := v
    simp only [Ex.val, Ex.op, Ex.col, Ex.v, Ex.A, Ex.n, Ex.cap]
    have hb := below_box w (.cells #[.int .i64 op, .int .i64 col, .int .i64 vk, .int .i64 vn, .string ⟨vt.toArray⟩, .slice B p cp] 67)
    have hA := At.fresh w 67 #[.int .i64 op, .int .i64 col, .int .i64 vk, .int .i64 vn, .string ⟨vt.toArray⟩, .slice B p cp]
    go_enter Tryz.func69, Tryz.ntmps69
    go_wp2
    have hW : w.heap.size < (w.alloc (.cells #[.int .i64 op, .int .i64 col, .int .i64 vk, .int .i64 vn, .string ⟨vt.toArray⟩, .slice B p cp] 67)).heap.size := hA.lt
    go_loopw [8] (fun i wr => ∃ (k : Nat), k ≤ p ∧ i = .int .i64 k ∧ Below w.heap.size w wr ∧ At wr w.heap.size 67 #[.int .i64 op, .int .i64 col, .int .i64 vk, .int .i64 vn, .string ⟨vt.toArray⟩, .slice B p cp]) (fun i _ => p - (intOf i).toNat)
    case atStart => exact ⟨0, by omega, rfl, hb, hA⟩
    case round =>
      obtain ⟨k, hk, rfl, hbr, hAr⟩ := hrel
      clear hA hW
      by_cases hlt : k < p
      · obtain ⟨b, off, rfl, hbl, hcell⟩ := harg (by omega)
        have hcl := (hcell k hlt).1.below hbr hbl
        have hik := (hcell k hlt).2.below hbr
        have iha := fun w' (b' : Below wr.heap.size wr w') => ih k w' (hik.below b')
        unfold Ex.val at iha
        clear ih hcell hik harg
        obtain ⟨c0, c1, c2, c3, c4, c5⟩ := hcl
        have hbx := below_box wr (.cells #[.int .i64 (arg k).op, .int .i64 (arg k).col, .int .i64 (arg k).v.kind, .int .i64 (arg k).v.num, .string ⟨(arg k).v.text.toArray⟩, .slice (arg k).A (arg k).n (arg k).cap] 67)
        go_wp2_with fail
        refine (iha _ hbx).mono ?_
        rintro e w2 ⟨⟨y, rfl⟩, b2⟩
        have hbc := below_in hbx b2
        have hb2 := below_in hbr hbc
        have hA2 := hAr.below hbc hAr.lt
        cases y with
        | true =>
          go_wp2_with fail
          go_ret
          exact ⟨⟨true, rfl⟩, hb2⟩
        | false =>
          go_wp2_with fail
          exact ⟨⟨k + 1, by omega, by go_num, hb2, hA2⟩, by simp [intOf]; omega⟩
      · obtain ⟨c0, c1, c2, c3, c4, c5⟩ := hAr.six
        go_wp2
        go_ret
        exact ⟨⟨_, rfl⟩, hbr⟩
set_option maxHeartbeats 800000 in
theorem refGreat_any (e : Ex) (w : World) (hin : InE w e) : Calls Tryz.prog 36 #[e.val] w fun en w' => IsBool en ∧ Below w.heap.size w w' := by
  have hb := below_box w (.cells #[.int .i64 e.op, .int .i64 e.col, .int .i64 e.v.kind, .int .i64 e.v.num, .string ⟨e.v.text.toArray⟩, .slice e.A e.n e.cap] 67)
  have hA := At.fresh w 67 #[.int .i64 e.op, .int .i64 e.col, .int .i64 e.v.kind, .int .i64 e.v.num, .string ⟨e.v.text.toArray⟩, .slice e.A e.n e.cap]
  have hs := fun w1 (b1 : Below w.heap.size w w1) => size_any e w1 (hin.below b1)
  have hl := fun w1 (b1 : Below w.heap.size w w1) => long_any e w1 (hin.below b1)
  unfold Ex.val at *
  go_enter Tryz.func36, Tryz.ntmps36
  go_wp2_with fail
  refine (hs _ hb).mono ?_
  rintro en w2 ⟨⟨y, z, rfl⟩, b2⟩
  have hb2 := below_in hb b2
  obtain ⟨c0, c1, c2, c3, c4, c5⟩ := (hA.below b2 hA.lt).six
  by_cases h1 : 300 < y
  · go_wp2_with fail
    go_ret
    exact ⟨⟨_, rfl⟩, hb2⟩
  have h1' : decide (300 < y) = false := by simpa using h1
  by_cases h2 : 60 < z
  · go_wp2_with fail
    go_ret
    exact ⟨⟨_, rfl⟩, hb2⟩
  have h2' : decide (60 < z) = false := by simpa using h2
  go_wp2_with fail
  refine (hl _ hb2).mono ?_
  rintro en w3 ⟨⟨x, rfl⟩, b3⟩
  have hb3 := below_in hb2 b3
  go_wp2_with fail
  go_ret
  exact ⟨⟨_, rfl⟩, hb3⟩
end Go.Proofs.YtnhalfdddcjicaaGreat

namespace Go.Proofs.YtnhalfdddcjicaaGreat
open Go.RowKit

set_option maxRecDepth 100000 in
set_option maxHeartbeats 3200000 in
theorem sgreat_any (s : Sc) (w : World) (hs : InS w s) : Calls Tryz.prog 19 #[s.val] w fun e w' => IsBool e ∧ Below w.heap.size w w' := by
  have b0 := below_box w (.cells #[.int .i64 s.ver, .slice s.tA s.tn s.tcap, .slice s.gA s.gn s.gcap] 25)
  have aS := At.fresh w 25 #[.int .i64 s.ver, .slice s.tA s.tn s.tcap, .slice s.gA s.gn s.gcap]
  have htm := hs.tmax
  have hgm := hs.gmax
  have hT := hs.tabs
  have hG := hs.grants
  unfold maxLen at htm hgm
  clear hs
  obtain ⟨ver, tA, tn, tcap, tab, gA, gn, gcap, gs⟩ := s
  unfold Sc.val
  simp only at *
  go_enter Tryz.func19, Tryz.ntmps19
  go_wp2_with fail
  · go_ret
    exact ⟨⟨_, rfl⟩, b0⟩
  go_loopw [3, 24] (fun nv i wr => ∃ (k : Nat) (z : Int), k ≤ tn ∧ i = .int .i64 k ∧ nv = .int .i64 z ∧ Below w.heap.size w wr ∧ At wr w.heap.size 25 #[.int .i64 ver, .slice tA tn tcap, .slice gA gn gcap]) (fun _ i _ => tn - (intOf i).toNat)
  case atStart => exact ⟨0, _, by omega, rfl, rfl, b0, aS⟩
  case round =>
    obtain ⟨k, z, hk, rfl, rfl, hbr, aSr⟩ := hrel
    clear b0 aS
    have hne := Nat.ne_of_lt aSr.lt
    by_cases hlt : k < tn
    · obtain ⟨b, off, rfl, hbl, hcell⟩ := hT (by omega)
      obtain ⟨hcl, hin⟩ := hcell k hlt
      obtain ⟨c0, c1, c2, c3⟩ := hcl.keep fun i => hbr.cell (p := ⟨b, i, none⟩) hbl
      clear hcell hcl
      generalize tab k = t at *
      have hcm := hin.cmax
      have hem := hin.emax
      have hcols := hin.cols
      have hchk := hin.chk
      have hnl := hin.name
      unfold maxLen at hcm hem hnl
      clear hin
      obtain ⟨nm, ow, cA, cn, ccap, cols, eA, en, ecap, chk⟩ := t
      simp only at c0 c1 c2 c3 hcm hem hcols hchk hnl
      have aT := At.fresh wr 32 #[.string ⟨nm.toArray⟩, .int .i64 ow, .slice cA cn ccap, .slice eA en ecap]
      have aS1 := aSr.alloc (.cells #[.string ⟨nm.toArray⟩, .int .i64 ow, .slice cA cn ccap, .slice eA en ecap] 32)
      have hb1 := hbr.alloc hbr.size (.cells #[.string ⟨nm.toArray⟩, .int .i64 ow, .slice cA cn ccap, .slice eA en ecap] 32)
      go_wp2_with fail
      go_loopw [3, 44] (fun nv i wx => ∃ (k' : Nat) (z' : Int), k' ≤ cn ∧ i = .int .i64 k' ∧ nv = .int .i64 z' ∧ Below w.heap.size w wx ∧ At wx w.heap.size 25 #[.int .i64 ver, .slice (some ⟨b, off, none⟩) tn tcap, .slice gA gn gcap] ∧
        At wx wr.heap.size 32 #[.string ⟨nm.toArray⟩, .int .i64 ow, .slice cA cn ccap, .slice eA en ecap]) (fun _ i _ => cn - (intOf i).toNat)
      case atStart => exact ⟨0, _, by omega, rfl, rfl, hb1, aS1, aT⟩
      case round =>
        clear aT aS1 hb1 c0 c1 c2 c3 aSr hbr
        obtain ⟨k', z', hk', rfl, rfl, hbx, aSx, aTx⟩ := hrel
        have hne' := Nat.ne_of_lt aTx.lt
        have hne2 := Nat.ne_of_lt aSx.lt
        by_cases hlt' : k' < cn
        · obtain ⟨b', off', rfl, hbl', hc'⟩ := hcols.2.2 (by omega)
          have hcell' := (hc' k' hlt').keep fun i => hbx.cell (p := ⟨b', i, none⟩) hbl'
          have hco : (cols.getD k' default).Ok := by
            have hl : k' < cols.length := by rw [hcols.1]; exact hlt'
            rw [List.getD_eq_getElem?_getD, List.getElem?_eq_getElem hl]
            exact hcols.2.1 _ (List.getElem_mem hl)
          have l1 := hco.name
          have l2 := hco.ref
          clear hc' hco
          generalize cols.getD k' default = c at *
          unfold maxLen at l1 l2
          obtain ⟨d0, d1, d2, d3, d4, d5⟩ := hcell'
          have aSy := fun o => aSx.alloc o
          have aTy := fun o => aTx.alloc o
          have hby := fun o => hbx.alloc hbx.size o
          go_wp2_with fail
          exact ⟨⟨k' + 1, _, by omega, by go_num, rfl, hby _, aSy _, aTy _⟩, by simp [intOf]; omega⟩
        · obtain ⟨t0, t1, t2, t3, -⟩ := aTx.four
          clear hcols
          go_wp2_with fail
          go_loopw [61] (fun i wy => ∃ (k2 : Nat), k2 ≤ en ∧ i = .int .i64 k2 ∧ Below w.heap.size w wy ∧ At wy w.heap.size 25 #[.int .i64 ver, .slice (some ⟨b, off, none⟩) tn tcap, .slice gA gn gcap]) (fun i _ => en - (intOf i).toNat)
          case atStart => exact ⟨0, by omega, rfl, hbx, aSx⟩
          case round =>
            clear hbx aSx aTx t0 t1 t2 t3
            obtain ⟨k2, hk2, rfl, hby, aSy⟩ := hrel
            by_cases hlt2 : k2 < en
            · obtain ⟨b2, off2, rfl, hbl2, hc2⟩ := hchk (by omega)
              obtain ⟨hcl2, hin2⟩ := hc2 k2 hlt2
              obtain ⟨x0, x1, x2, x3, x4, x5⟩ := hcl2.keep fun i => hby.cell (p := ⟨b2, i, none⟩) hbl2
              clear hc2 hcl2
              have hbz := hby.alloc hby.size (.cells #[.int .i64 (chk k2).op, .int .i64 (chk k2).col, .int .i64 (chk k2).v.kind, .int .i64 (chk k2).v.num, .string ⟨(chk k2).v.text.toArray⟩, .slice (chk k2).A (chk k2).n (chk k2).cap] 67)
              have aSz := aSy.alloc (.cells #[.int .i64 (chk k2).op, .int .i64 (chk k2).col, .int .i64 (chk k2).v.kind, .int .i64 (chk k2).v.num, .string ⟨(chk k2).v.text.toArray⟩, .slice (chk k2).A (chk k2).n (chk k2).cap] 67)
              have hg := refGreat_any (chk k2) _ (hin2.below hbz)
              unfold Ex.val at hg
              clear hin2
              go_wp2_with fail
              refine hg.mono ?_
              rintro e w4 ⟨⟨y, rfl⟩, b4⟩
              have hb4 := below_in hbz b4
              have aS4 := aSz.below b4 aSz.lt
              cases y with
              | true =>
                go_wp2_with fail
                go_ret
                exact ⟨⟨_, rfl⟩, hb4⟩
              | false =>
                go_wp2_with fail
                exact ⟨⟨k2 + 1, by omega, by go_num, hb4, aS4⟩, by simp [intOf]; omega⟩
            · go_wp2_with fail
              · go_ret
                exact ⟨⟨_, rfl⟩, hby⟩
              · exact ⟨⟨k + 1, _, by omega, by go_num, rfl, hby, aSy⟩, by simp [intOf]; omega⟩
    · have s1 : _ := aSr.cell 1
      have s2 := aSr.cell 2
      clear hT
      have aS2 := aSr
      go_wp2_with fail
      go_loopw [3, 74] (fun nv i wx => ∃ (k' : Nat) (z' : Int), k' ≤ gn ∧ i = .int .i64 k' ∧ nv = .int .i64 z' ∧ Below w.heap.size w wx) (fun _ i _ => gn - (intOf i).toNat)
      case atStart => exact ⟨0, _, by omega, rfl, rfl, hbr⟩
      case round =>
        clear hbr aSr s1 s2 aS2
        obtain ⟨k', z', hk', rfl, rfl, hbx⟩ := hrel
        by_cases hlt' : k' < gn
        · obtain ⟨b', off', rfl, hbl', hc'⟩ := hG.2.2 (by omega)
          obtain ⟨d0, d1, d2⟩ := (hc' k' hlt').keep fun i => hbx.cell (p := ⟨b', i, none⟩) hbl'
          have hco : (gs.getD k' default).Ok := by
            have hl : k' < gs.length := by rw [hG.1]; exact hlt'
            rw [List.getD_eq_getElem?_getD, List.getElem?_eq_getElem hl]
            exact hG.2.1 _ (List.getElem_mem hl)
          have l1 := hco.table
          unfold maxLen at l1
          clear hc' hco
          generalize gs.getD k' default = c at *
          have hby := fun o => hbx.alloc hbx.size o
          go_wp2_with fail
          exact ⟨⟨k' + 1, _, by omega, by go_num, rfl, hby _⟩, by simp [intOf]; omega⟩
        · go_wp2_with fail
          go_ret
          exact ⟨⟨_, rfl⟩, hbx⟩
end Go.Proofs.YtnhalfdddcjicaaGreat

namespace Go.Proofs.YtnhalfdddcjicaaGreat
open Go.RowKit

theorem wp_append1 {P : Program} {ops : Array Oper} {rest : List Oper} {o : Oper} {a : Act} {Q : Exit → Act → World → Prop} {w : World} {base : Nat} {v : Value} {n : Nat} {xs : List Value} (hgd : o.guard = none) (sl x : Operand) (t : TypeId)
    (hop : o.op = .call { callee := .builtin .append, args := #[sl, x], argTypes := #[t, t] }) (e : TypeId) (size bytes : Nat) (z : Value) (ht : P.underlying t = some (.slice e))
    (hi : (P.info? e).map (fun i => (i.zero, i.size, i.bytes)) = some (some z, size, bytes)) (hzs : z.cells.size = size) (hsz : 0 < size) (h : w.ownsRow base e size v n xs) (cs : Array Value) (ty : TypeId)
    (hsl : a.eval sl = v) {H : Nat} (hx : a.eval x = .slice (some ⟨H, 0, none⟩) 1 1) (hH : w.heap.size = H) (hcs : cs.size = size) (h1 : ∀ u ∈ cs.toList, u.oneCell' = true) (hn : n + 1 ≤ 1000000000) (hby : bytes ≤ 100) (hb : base ≤ w.heap.size)
    (hQ : ∀ g cap w', w'.ownsRow base e size (.slice (some ⟨g, 0, none⟩) (n + 1) cap) (n + 1) (xs ++ cs.toList) → Grew w v w' (.slice (some ⟨g, 0, none⟩) (n + 1) cap) → g < w'.heap.size → wpList P ops Q rest (a.put o.dst (.slice (some ⟨g, 0, none⟩) (n + 1) cap)) w') :
    wpList P ops Q (o :: rest) a (w.alloc (.cells cs ty)) := by
  subst hH
  obtain ⟨i0, hi0, hz0, hz1, hz2⟩ := info_parts hi
  have hA := At.fresh w ty cs
  have hs1 : (w.alloc (.cells cs ty)).heap.size = w.heap.size + 1 := by simp
  refine wpList_append_lies _ hgd sl x t hop base e i0 z size bytes ht hi0 hz0 hz1 hz2 hzs hsz v n xs hsl (h.alloc _) ⟨w.heap.size, 0, none⟩ 1 1 cs.toList hx (by rw [Array.length_toList, hcs, Nat.one_mul]) ?_ h1 (by omega) (by unfold maxLen; omega) ?_ (by omega) _ rfl ?_
  · intro j u hu
    have e : (⟨w.heap.size, 0, none⟩ : Addr).add j = ⟨w.heap.size, j, none⟩ := by unfold Addr.add; split <;> simp_all
    rw [e, At.cell hA j]
    simpa using hu
  · have h2 := Nat.mul_le_mul hn hby
    omega
  · intro g cap w' ho hg hat hlt
    refine hQ g cap w' ho ?_ hlt
    exact (Grew.alloc w v _).trans (Grew.append hg hat)

theorem flat_at {α : Type} (f : α → List Value) (k : Nat) (d : α) (hf : ∀ a, (f a).length = k) : ∀ (l : List α) (j : Nat), j < l.length → ∀ i, i < k → (l.flatMap f)[j * k + i]? = (f (l.getD j d))[i]?
  | [], j, h, _, _ => absurd h (by simp)
  | a :: r, 0, _, i, hi => by
    rw [List.flatMap_cons, Nat.zero_mul, Nat.zero_add, List.getElem?_append_left (by rw [hf]; exact hi)]
    rfl
  | a :: r, j + 1, h, i, hi => by
    rw [List.flatMap_cons, List.getElem?_append_right (by rw [hf, Nat.succ_mul]; omega), hf]
    rw [show (j + 1) * k + i - k = j * k + i by rw [Nat.succ_mul]; omega]
    rw [flat_at f k d hf r j (by simpa using h) i hi]
    rfl
/-- The cells of an owned row. -/
theorem own_cells {α : Type} {w : World} {base : Nat} {e : TypeId} {k : Nat} {v : Value} {n : Nat} (f : α → List Value) (d : α) (hf : ∀ a, (f a).length = k) (l : List α) (h : w.ownsRow base e k v n (l.flatMap f)) (hn : l.length = n) :
    ∃ A c, v = .slice A n c ∧ (0 < n → ∃ g, A = some ⟨g, 0, none⟩ ∧ base ≤ g ∧ g < w.heap.size ∧ ∀ j, j < n → ∀ i, i < k → w.cell? ⟨g, j * k + i, none⟩ = (f (l.getD j d))[i]?) := by
  rcases h.2 with ⟨rfl, rfl⟩ | ⟨g, cap, cur, rfl, hb, hg, _, _, _, htk⟩
  · exact ⟨none, 0, rfl, fun h => absurd h (by omega)⟩
  · refine ⟨_, cap, rfl, fun _ => ⟨g, rfl, hb, (Array.getElem?_eq_some_iff.1 hg).1, fun j hj i hi => ?_⟩⟩
    rw [cell_of_row w g _ cur e (0, 0) hg, ← flat_at f k d hf l j (by omega) i hi, ← htk, List.getElem?_take, if_pos ?_]
    · simp
    · have h1 : (j + 1) * k ≤ n * k := Nat.mul_le_mul_right k hj
      rw [Nat.succ_mul] at h1
      omega
end Go.Proofs.YtnhalfdddcjicaaGreat

namespace Go.Proofs.YtnhalfdddcjicaaGreat
open Go.RowKit

/-- Alike: the same but for where they lie. -/
def simE : Ex → Ex → Prop
  | .nil, .nil => True
  | .mk op col v _ n _ arg, .mk op' col' v' _ n' _ arg' => op = op' ∧ col = col' ∧ v = v' ∧ n = n' ∧ ∀ j, j < n → simE (arg j) (arg' j)
  | _, _ => False
theorem simE.symm : ∀ {a b : Ex}, simE a b → simE b a
  | .nil, .nil, h => h
  | .mk _ _ _ _ _ _ arg, .mk _ _ _ _ _ _ arg', h => by
    rw [simE] at h ⊢
    obtain ⟨rfl, rfl, rfl, rfl, h5⟩ := h
    exact ⟨rfl, rfl, rfl, rfl, fun j hj => (h5 j hj).symm⟩
  | .nil, .mk _ _ _ _ _ _ _, h => by simp [simE] at h
  | .mk _ _ _ _ _ _ _, .nil, h => by simp [simE] at h
structure simT (a b : Tb) : Prop where
  name : a.name = b.name
  owner : a.owner = b.owner
  cn : a.cn = b.cn
  cols : a.cols = b.cols
  en : a.en = b.en
  chk : ∀ j, j < a.en → simE (a.chk j) (b.chk j)

set_option maxRecDepth 100000 in
set_option maxHeartbeats 3200000 in
theorem sameE_any (a : Ex) : ∀ (b : Ex) (w : World), InE w a → InE w b → simE a b → Calls Tryz.prog 35 #[a.val, b.val] w fun e w' => e = .returned (.bool true) ∧ Below w.heap.size w w' := by
  induction a with
  | nil => intro b w h; exact h.elim
  | mk op col v A n cap arg ih =>
    intro b w ha hb hs
    cases b with
    | nil => simp [simE] at hs
    | mk op' col' v' A' n' cap' arg' =>
    rw [simE] at hs
    obtain ⟨rfl, rfl, rfl, rfl, hsim⟩ := hs
    rw [InE] at ha hb
    obtain ⟨-, -, hv, hn, harg⟩ := ha
    obtain ⟨-, -, -, -, harg'⟩ := hb
    unfold maxLen at hn
    obtain ⟨vk, vn, vt⟩ := v
    clear hv
    simp only [Ex.val, Ex.op, Ex.col, Ex.v, Ex.A, Ex.n, Ex.cap]
    obtain ⟨W, hW⟩ : ∃ W, (w.alloc (.cells #[.int .i64 op, .int .i64 col, .int .i64 vk, .int .i64 vn, .string ⟨vt.toArray⟩, .slice A n cap] 67)).alloc
      (.cells #[.int .i64 op, .int .i64 col, .int .i64 vk, .int .i64 vn, .string ⟨vt.toArray⟩, .slice A' n cap'] 67) = W := ⟨_, rfl⟩
    have b3 : Below w.heap.size w W := by
      rw [← hW]
      have b0 := below_box w (.cells #[.int .i64 op, .int .i64 col, .int .i64 vk, .int .i64 vn, .string ⟨vt.toArray⟩, .slice A n cap] 67)
      exact b0.alloc b0.size _
    have aX : At W w.heap.size 67 #[.int .i64 op, .int .i64 col, .int .i64 vk, .int .i64 vn, .string ⟨vt.toArray⟩, .slice A n cap] := by
      rw [← hW]; exact (At.fresh _ _ _).alloc _
    have aY : At W (w.heap.size + 1) 67 #[.int .i64 op, .int .i64 col, .int .i64 vk, .int .i64 vn, .string ⟨vt.toArray⟩, .slice A' n cap'] := by
      rw [← hW]
      have := At.fresh (w.alloc (.cells #[.int .i64 op, .int .i64 col, .int .i64 vk, .int .i64 vn, .string ⟨vt.toArray⟩, .slice A n cap] 67)) 67 #[.int .i64 op, .int .i64 col, .int .i64 vk, .int .i64 vn, .string ⟨vt.toArray⟩, .slice A' n cap']
      simp only [World.size_alloc] at this
      exact this
    have hWc := Lib.hid hW
    clear hW
    go_enter Tryz.func35, Tryz.ntmps35
    go_wp2_with fail
    rw [hWc.out]
    clear hWc
    go_loopw [37] (fun i wr => ∃ k : Nat, k ≤ n ∧ i = .int .i64 k ∧ Below W.heap.size W wr) (fun i _ => n - (intOf i).toNat)
    case atStart => exact ⟨0, by omega, rfl, Below.refl _ _⟩
    case round =>
      obtain ⟨k, hk, rfl, hbr⟩ := hrel
      have hbw := below_in b3 hbr
      by_cases hlt : k < n
      · obtain ⟨b, off, rfl, hbl, hcell⟩ := harg (by omega)
        obtain ⟨b', off', rfl, hbl', hcell'⟩ := harg' (by omega)
        obtain ⟨x0, x1, x2, x3, x4, x5⟩ := (hcell k hlt).1.keep fun i => hbw.cell (p := ⟨b, i, none⟩) hbl
        obtain ⟨y0, y1, y2, y3, y4, y5⟩ := (hcell' k hlt).1.keep fun i => hbw.cell (p := ⟨b', i, none⟩) hbl'
        have hi := (hcell k hlt).2.below hbw
        have hi' := (hcell' k hlt).2.below hbw
        have hc := fun w' (b' : Below wr.heap.size wr w') => ih k (arg' k) w' (hi.below b') (hi'.below b') (hsim k hlt)
        have a5 : wr.cell? ⟨w.heap.size, 5, none⟩ = some (.slice (some ⟨b, off, none⟩) n cap) := (aX.below hbr aX.lt).cell 5
        have a5' : wr.cell? ⟨w.heap.size + 1, 5, none⟩ = some (.slice (some ⟨b', off', none⟩) n cap') := (aY.below hbr aY.lt).cell 5
        have hki : (k : Int) < (n : Int) := by omega
        unfold Ex.val at hc
        clear ih hcell hcell' harg harg' hi hi' hsim
        go_wp2_with fail
        go_still_tail 10, (by kernel_rfl)
        change wpList _ _ _ _ _ wr.drew
        have hd : Below wr.heap.size wr wr.drew := (Below.refl _ _).drew
        go_wp2_with fail
        refine (hc _ hd).mono ?_
        rintro e w2 ⟨rfl, b2⟩
        go_wp2_with fail
        exact ⟨⟨k + 1, by omega, by go_num, below_in hbr (below_in hd b2)⟩, by simp [intOf]; omega⟩
      · go_wp2_with fail
        go_ret
        exact ⟨rfl, hbw⟩

set_option maxRecDepth 100000 in
set_option maxHeartbeats 3200000 in
theorem sameT_any (a b : Tb) (w : World) (ha : InT w a) (hb : InT w b) (hs : simT a b) : Calls Tryz.prog 17 #[a.val, b.val] w fun e w' => e = .returned (.bool true) ∧ Below w.heap.size w w' := by
  obtain ⟨nm, ow, A, n, cap, cs, eA, en, ecap, chk⟩ := a
  obtain ⟨nm', ow', A', n', cap', cs', eA', en', ecap', chk'⟩ := b
  obtain ⟨h1, h2, h3, h4, h5, hsim⟩ := hs
  simp only at h1 h2 h3 h4 h5 hsim
  subst h1 h2 h3 h4 h5
  have hrc := ha.cols
  have hrc' := hb.cols
  have hre := ha.chk
  have hre' := hb.chk
  have hn := ha.cmax
  have hen := ha.emax
  unfold maxLen at hn hen
  simp only at hrc hrc' hre hre' hn hen
  clear ha hb
  simp only [Tb.val]
  obtain ⟨W, hW⟩ : ∃ W, (w.alloc (.cells #[.string ⟨nm.toArray⟩, .int .i64 ow, .slice A n cap, .slice eA en ecap] 32)).alloc
    (.cells #[.string ⟨nm.toArray⟩, .int .i64 ow, .slice A' n cap', .slice eA' en ecap'] 32) = W := ⟨_, rfl⟩
  have b3 : Below w.heap.size w W := by
    rw [← hW]
    have b0 := below_box w (.cells #[.string ⟨nm.toArray⟩, .int .i64 ow, .slice A n cap, .slice eA en ecap] 32)
    exact b0.alloc b0.size _
  have aX : At W w.heap.size 32 #[.string ⟨nm.toArray⟩, .int .i64 ow, .slice A n cap, .slice eA en ecap] := by
    rw [← hW]; exact (At.fresh _ _ _).alloc _
  have aY : At W (w.heap.size + 1) 32 #[.string ⟨nm.toArray⟩, .int .i64 ow, .slice A' n cap', .slice eA' en ecap'] := by
    rw [← hW]
    have := At.fresh (w.alloc (.cells #[.string ⟨nm.toArray⟩, .int .i64 ow, .slice A n cap, .slice eA en ecap] 32)) 32 #[.string ⟨nm.toArray⟩, .int .i64 ow, .slice A' n cap', .slice eA' en ecap']
    simp only [World.size_alloc] at this
    exact this
  have hWc := Lib.hid hW
  clear hW
  go_enter Tryz.func17, Tryz.ntmps17
  go_wp2_with fail
  rw [hWc.out]
  clear hWc
  go_loopw [40] (fun i wr => ∃ k : Nat, k ≤ n ∧ i = .int .i64 k ∧ Below W.heap.size W wr) (fun i _ => n - (intOf i).toNat)
  case atStart => exact ⟨0, by omega, rfl, Below.refl _ _⟩
  case round =>
    obtain ⟨k, hk, rfl, hbr⟩ := hrel
    have hbw := below_in b3 hbr
    by_cases hlt : k < n
    · obtain ⟨b, off, rfl, hbl, hcell⟩ := hrc.2.2 (by omega)
      obtain ⟨b', off', rfl, hbl', hcell'⟩ := hrc'.2.2 (by omega)
      have hx := (hcell k hlt).keep fun i => hbw.cell (p := ⟨b, i, none⟩) hbl
      have hy := (hcell' k hlt).keep fun i => hbw.cell (p := ⟨b', i, none⟩) hbl'
      generalize cs.getD k default = c at *
      obtain ⟨x0, x1, x2, x3, x4, x5⟩ := hx
      obtain ⟨y0, y1, y2, y3, y4, y5⟩ := hy
      have a5 : wr.cell? ⟨w.heap.size, 2, none⟩ = some (.slice (some ⟨b, off, none⟩) n cap) := (aX.below hbr aX.lt).cell 2
      have a5' : wr.cell? ⟨w.heap.size + 1, 2, none⟩ = some (.slice (some ⟨b', off', none⟩) n cap') := (aY.below hbr aY.lt).cell 2
      have hki : (k : Int) < (n : Int) := by omega
      clear hcell hcell' hre hre' hsim
      go_wp2_with fail
      go_quiet (fail)
      go_wp2_with fail
      exact ⟨⟨k + 1, by omega, by go_num, below_nq hbr _⟩, by simp [intOf]; omega⟩
    · have aX2 := aX.below hbr aX.lt
      have aY2 := aY.below hbr aY.lt
      have a3 : wr.cell? ⟨w.heap.size, 3, none⟩ = some (.slice eA en ecap) := aX2.cell 3
      clear hrc hrc'
      go_wp2_with fail
      go_loopw [58] (fun i wx => ∃ k : Nat, k ≤ en ∧ i = .int .i64 k ∧ Below wr.heap.size wr wx) (fun i _ => en - (intOf i).toNat)
      case atStart => exact ⟨0, by omega, rfl, Below.refl _ _⟩
      case round =>
        obtain ⟨k2, hk2, rfl, hbx⟩ := hrel
        have hbw2 := below_in hbw hbx
        by_cases hlt2 : k2 < en
        · obtain ⟨b, off, rfl, hbl, hcell⟩ := hre (by omega)
          obtain ⟨b', off', rfl, hbl', hcell'⟩ := hre' (by omega)
          obtain ⟨x0, x1, x2, x3, x4, x5⟩ := (hcell k2 hlt2).1.keep fun i => hbw2.cell (p := ⟨b, i, none⟩) hbl
          obtain ⟨y0, y1, y2, y3, y4, y5⟩ := (hcell' k2 hlt2).1.keep fun i => hbw2.cell (p := ⟨b', i, none⟩) hbl'
          have hi := (hcell k2 hlt2).2.below hbw2
          have hi' := (hcell' k2 hlt2).2.below hbw2
          have hc := fun w' (b' : Below wr.heap.size wr w') => sameE_any (chk k2) (chk' k2) w' (hi.below b') (hi'.below b') (hsim k2 hlt2)
          have a5 : wr.cell? ⟨w.heap.size, 3, none⟩ = some (.slice (some ⟨b, off, none⟩) en ecap) := (aX2.below hbx aX2.lt).cell 3
          have a5' : wr.cell? ⟨w.heap.size + 1, 3, none⟩ = some (.slice (some ⟨b', off', none⟩) en ecap') := (aY2.below hbx aY2.lt).cell 3
          have hki : (k2 : Int) < (en : Int) := by omega
          unfold Ex.val at hc
          clear hcell hcell' hre hre' hi hi' hsim
          go_wp2_with fail
          go_still_tail 10, (by kernel_rfl)
          change wpList _ _ _ _ _ wr.drew
          have hd : Below wr.heap.size wr wr.drew := (Below.refl _ _).drew
          go_wp2_with fail
          refine (hc _ hd).mono ?_
          rintro e w2 ⟨rfl, b2⟩
          go_wp2_with fail
          exact ⟨⟨k2 + 1, by omega, by go_num, below_in hbx (below_in hd b2)⟩, by simp [intOf]; omega⟩
        · go_wp2_with fail
          go_ret
          exact ⟨rfl, hbw2⟩
end Go.Proofs.YtnhalfdddcjicaaGreat
