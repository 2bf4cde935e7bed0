/- The walk of Links. -/
import Derived.Test.YtmlgochblmbkaaaScO
namespace Go.Proofs.Ytmlgochblmbkaaa
open Go.RowKit

abbrev Lk := List UInt8 × Nat
def lkCells (x : Lk) : List Value := [.string ⟨x.1.toArray⟩, .int .i64 (x.2 : Int)]
def linksT (t : Tb) (name : List UInt8) : Nat → List Lk
  | 0 => []
  | n + 1 => linksT t name n ++ (if (t.cols.getD n default).ref = name then [(t.name, n)] else [])
def linksS (tab : Nat → Tb) (name : List UInt8) : Nat → List Lk
  | 0 => []
  | k + 1 => linksS tab name k ++ linksT (tab k) name (tab k).cn
def linksOf (s : Sc) (name : List UInt8) : List Lk := if name = [] then [] else linksS s.tab name s.tn
theorem linksT_len (t : Tb) (name : List UInt8) : ∀ n, (linksT t name n).length ≤ n
  | 0 => by simp [linksT]
  | n + 1 => by
    have := linksT_len t name n
    rw [linksT, List.length_append]
    split <;> simp <;> omega
theorem linksS_len (tab : Nat → Tb) (name : List UInt8) : ∀ k, (linksS tab name k).length ≤ sumN k fun j => (tab j).cn
  | 0 => by simp [linksS]
  | k + 1 => by
    have h1 := linksS_len tab name k
    have h2 := linksT_len (tab k) name (tab k).cn
    rw [linksS, List.length_append, sumN_succ]
    omega
theorem linksT_pre (t : Tb) (name : List UInt8) {i n : Nat} (h : i ≤ n) : linksT t name i <+: linksT t name n := by
  induction n with
  | zero => obtain rfl : i = 0 := by omega
            exact List.prefix_refl _
  | succ n ih =>
    by_cases hi : i = n + 1
    · rw [hi]; exact List.prefix_refl _
    · rw [linksT]; exact (ih (by omega)).trans (List.prefix_append _ _)
theorem linksS_pre (tab : Nat → Tb) (name : List UInt8) {i n : Nat} (h : i ≤ n) : linksS tab name i <+: linksS tab name n := by
  induction n with
  | zero => obtain rfl : i = 0 := by omega
            exact List.prefix_refl _
  | succ n ih =>
    by_cases hi : i = n + 1
    · rw [hi]; exact List.prefix_refl _
    · rw [linksS]; exact (ih (by omega)).trans (List.prefix_append _ _)
/-- What is found at a place is the next of all. -/
theorem links_next (tab : Nat → Tb) (name : List UInt8) {k n i : Nat} (hk : k < n) (hi : i < (tab k).cn) (e : ((tab k).cols.getD i default).ref = name) :
    linksS tab name k ++ linksT (tab k) name i ++ [((tab k).name, i)] <+: linksS tab name n := by
  have h1 : linksT (tab k) name (i + 1) = linksT (tab k) name i ++ [((tab k).name, i)] := by rw [linksT, if_pos e]
  have h2 := linksT_pre (tab k) name (i := i + 1) (n := (tab k).cn) hi
  have h3 := linksS_pre tab name (i := k + 1) (n := n) hk
  rw [linksS] at h3
  rw [List.append_assoc, ← h1]
  exact ((List.prefix_append_right_inj _).2 h2).trans h3
theorem info_link : (Try.prog.info? 48).map (fun i => (i.zero, i.size, i.bytes)) = some (some (.agg #[.string ⟨#[]⟩, .int .i64 0]), 2, 24) := by kernel_rfl

theorem owns2_apart {w : World} {base g n k : Nat} {e t : TypeId} {v : Value} {xs : List Value} {cs : Array Value} (h : w.ownsRow base e k v n xs) (hg : At w g t cs) (hne : e ≠ t := by decide) : v.ownBlock ≠ some g := by
  rcases h.2 with ⟨rfl, _⟩ | ⟨g', cap, cur, rfl, _, hh, _⟩
  · intro h; simp [Value.ownBlock] at h
  · intro he
    obtain rfl : g' = g := Option.some.inj he
    exact hne (hg.type_eq hh).symm

set_option maxRecDepth 100000 in
set_option maxHeartbeats 3200000 in
theorem links_any (s : Sc) (name : List UInt8) (w : World) (hs : InS w s) (hw : wtS s ≤ 1048576) :
    Calls Try.prog 19 #[s.val, .string ⟨name.toArray⟩] w fun e w' => ∃ v, e = .returned v ∧ w'.ownsRow w.heap.size 48 2 v (linksOf s name).length ((linksOf s name).flatMap lkCells) ∧ Below w.heap.size w w' := by
  have H : Hid (linksOf s name = if name = [] then [] else linksS s.tab name s.tn) := rfl
  have b0 := below_box w (.cells #[.int .i64 s.ver, .slice s.tA s.tn s.tcap, .slice s.gA s.gn s.gcap] 29)
  have hsum : sumN s.tn (fun j => (s.tab j).cn) ≤ 1048576 := by
    refine Nat.le_trans (sumN_mono fun j _ => ?_) (Nat.le_trans (show sumN s.tn (fun j => wtT (s.tab j)) ≤ wtS s by unfold wtS; omega) hw)
    have hone : (s.tab j).cn ≤ sumN (s.tab j).cn (fun i => wtC ((s.tab j).cols.getD i default)) := by
      have : ∀ n (f : Nat → Nat), (∀ i, 1 ≤ f i) → n ≤ sumN n f := fun n f hf => by
        induction n with
        | zero => omega
        | succ n ih => rw [sumN_succ]; have := hf n; omega
      exact this _ _ fun i => by unfold wtC; omega
    unfold wtT
    omega
  by_cases hne : name = []
  · subst hne
    have HE := Lib.hid (H.out.trans (if_pos rfl))
    unfold Sc.val
    go_enter Try.func19, Try.ntmps19
    go_wp2_with fail
    go_ret
    exact ⟨_, rfl, by rw [HE.out]; exact World.ownsRow_nil _ _ _ 2, b0⟩
  obtain ⟨r1, r2, r3⟩ := empty_forms hne
  have HE := Lib.hid (H.out.trans (if_neg hne))
  have htm := hs.tmax
  have hT := hs.tabs
  unfold maxLen at htm
  clear hs hne H
  obtain ⟨ver, tA, tn, tcap, tab, gA, gn, gcap, gs⟩ := s
  unfold Sc.val
  simp only at HE b0 hsum htm hT ⊢
  go_enter Try.func19, Try.ntmps19
  go_wp2_with fail
  go_loopw [5, 15] (fun v i wr => ∃ (k : Nat), k ≤ tn ∧ i = .int .i64 k ∧ wr.ownsRow w.heap.size 48 2 v (linksS tab name k).length ((linksS tab name k).flatMap lkCells) ∧ Below w.heap.size w wr) (fun _ i _ => tn - (intOf i).toNat)
  case atStart => exact ⟨0, by omega, rfl, World.ownsRow_nil _ _ _ 2, b0⟩
  case round =>
    clear b0
    obtain ⟨k, hk, rfl, hown, hbr⟩ := hrel
    by_cases hlt : k < tn
    · obtain ⟨b, off, rfl, hbl, hcell⟩ := hT (by omega)
      obtain ⟨hcl, hin⟩ := hcell k hlt
      obtain ⟨c0, c1, c2, c3⟩ := hcl.keep fun i => hbr.cell (p := ⟨b, i, none⟩) hbl
      have HS : Hid (linksS tab name (k + 1) = linksS tab name k ++ linksT (tab k) name (tab k).cn) := rfl
      have hlS := linksS_len tab name k
      have hsum2 : sumN (k + 1) (fun j => (tab j).cn) ≤ 1048576 := Nat.le_trans (sumN_le _ hlt) hsum
      rw [sumN_succ] at hsum2
      have hLT := linksT_len (tab k) name
      have hLTn : ∀ n, Hid (linksT (tab k) name (n + 1) = linksT (tab k) name n ++ (if ((tab k).cols.getD n default).ref = name then [((tab k).name, n)] else [])) := fun _ => rfl
      have hLT0 : linksT (tab k) name 0 = [] := rfl
      clear hcell hcl
      generalize linksS tab name k = L at *
      generalize linksT (tab k) name = LT at *
      generalize tab k = t at *
      have hcols := hin.cols
      have hcm := hin.cmax
      unfold maxLen at hcm
      clear hin
      obtain ⟨nm, ow, cA, cn, ccap, cols, eA, en, ecap, chk⟩ := t
      simp only at c0 c1 c2 c3 hcm hcols HS hLTn hsum2
      have aT := At.fresh wr 25 #[.string ⟨nm.toArray⟩, .int .i64 ow, .slice cA cn ccap, .slice eA en ecap]
      have hb1 := hbr.alloc hbr.size (.cells #[.string ⟨nm.toArray⟩, .int .i64 ow, .slice cA cn ccap, .slice eA en ecap] 25)
      have hown1 := hown.alloc (.cells #[.string ⟨nm.toArray⟩, .int .i64 ow, .slice cA cn ccap, .slice eA en ecap] 25)
      have hwr := hbr.size
      go_wp2_with fail
      go_loopw [5, 22] (fun v i wx => ∃ (k' : Nat), k' ≤ cn ∧ i = .int .i64 k' ∧ wx.ownsRow w.heap.size 48 2 v (L ++ LT k').length ((L ++ LT k').flatMap lkCells) ∧ Below w.heap.size w wx ∧
        At wx wr.heap.size 25 #[.string ⟨nm.toArray⟩, .int .i64 ow, .slice cA cn ccap, .slice eA en ecap]) (fun _ i _ => cn - (intOf i).toNat)
      case atStart => exact ⟨0, by omega, rfl, by rw [hLT0, List.append_nil]; exact hown1, hb1, aT⟩
      case round =>
        clear hown hown1 hb1 aT c0 c1 c2 c3 hbr
        obtain ⟨k', hk', rfl, hown, hbx, aT⟩ := hrel
        by_cases hlt' : k' < cn
        · obtain ⟨b', off', rfl, hbl', hc'⟩ := hcols.2.2 (by omega)
          have hcell' := (hc' k' hlt').keep fun i => hbx.cell (p := ⟨b', i, none⟩) hbl'
          have HN := hLTn k'
          have hLk := hLT k'
          clear hc' hLTn hLT
          generalize cols.getD k' default = c at *
          obtain ⟨d0, d1, d2, d3, d4, d5⟩ := hcell'
          have hby := fun o => hbx.alloc hbx.size o
          have aTy := fun o => aT.alloc o
          have hne' := Nat.ne_of_lt aT.lt
          have hltx := aT.lt
          obtain ⟨t0, -⟩ := aT.four
          by_cases he : c.ref = name
          · have hd : (c.ref == name) = true := by simpa using he
            have HN2 := Lib.hid (HN.out.trans (by rw [if_pos he]))
            have hlen : (L ++ LT k').length + 1 ≤ 1000000000 := by rw [List.length_append]; omega
            have hoy := hown.alloc (.cells #[.string ⟨c.name.toArray⟩, .int .i64 c.kind, .bool c.nn, .bool c.un, .string ⟨c.ref.toArray⟩, .int .i64 c.del] 46)
            have hbase : w.heap.size ≤ (wr.alloc (.cells #[.string ⟨c.name.toArray⟩, .int .i64 c.kind, .bool c.nn, .bool c.un, .string ⟨c.ref.toArray⟩, .int .i64 c.del] 46)).heap.size := by have := hbx.size; simp; omega
            have hap := owns2_apart hown aT
            have hlo := World.ownsRow.lt hown
            clear HN he hown
            go_wp2_with (at_builtin; (refine wp_append1 rfl (.tmp 31) (.tmp 36) 43 rfl 48 2 24 _ Try.underlying43 info_link rfl (by omega) hoy #[.string ⟨nm.toArray⟩, .int .i64 (k' : Int)] 48 rfl rfl (World.size_alloc _ _) rfl ?c1 hlen (by omega) hbase ?_))
            case c1 => exact ⟨rfl, rfl⟩
            intro g cap w5 ho5 hg5 hlt5
            have HO5 := Lib.hid ho5
            clear ho5
            have aT5 := At.grown (aTy (.cells #[.string ⟨c.name.toArray⟩, .int .i64 c.kind, .bool c.nn, .bool c.un, .string ⟨c.ref.toArray⟩, .int .i64 c.del] 46)) hg5.grown (fun e => hap e.symm)
            have b5 := (hby (.cells #[.string ⟨c.name.toArray⟩, .int .i64 c.kind, .bool c.nn, .bool c.un, .string ⟨c.ref.toArray⟩, .int .i64 c.del] 46)).grown hg5.grown hbase (fun k h => (hlo k h).1)
            go_wp2_with fail
            refine ⟨⟨k' + 1, by omega, by go_num, ?_, b5, aT5⟩, by simp [intOf]; omega⟩
            rw [HN2.out, ← List.append_assoc, List.flatMap_append, show (L ++ LT k' ++ [(nm, k')]).length = (L ++ LT k').length + 1 by simp only [List.length_append, List.length_cons, List.length_nil]]
            have e1 : (L ++ LT k').length = L.length + (LT k').length := List.length_append
            have e2 : (L ++ LT k').flatMap lkCells = L.flatMap lkCells ++ (LT k').flatMap lkCells := List.flatMap_append
            rw [e1, e2, List.append_assoc]
            exact HO5.out
          · have hd : (c.ref == name) = false := by simpa using he
            have HN2 := Lib.hid (HN.out.trans (by rw [if_neg he, List.append_nil]))
            clear HN he
            have hoy := fun o => hown.alloc o
            go_wp2_with fail
            exact ⟨⟨k' + 1, by omega, by go_num, by rw [HN2.out]; exact hoy _, hby _, aTy _⟩, by simp [intOf]; omega⟩
        · obtain rfl : k' = cn := by omega
          clear hcols hLTn hLT
          go_wp2_with fail
          exact ⟨⟨k + 1, by omega, by go_num, by rw [HS.out]; exact hown, hbx⟩, by simp [intOf]; omega⟩
    · obtain rfl : k = tn := by omega
      go_wp2_with fail
      go_ret
      exact ⟨_, rfl, by rw [HE.out]; exact hown, hbr⟩
end Go.Proofs.Ytmlgochblmbkaaa
