/- The walk of Links. -/
/- Plain mathematics of grants: their order, sorted lists, what a role has of a table. -/
/- The walks of Name, both sides. -/
import Derived.Test.YtnhalfdddcjicaaGreatQJam
import Derived.Test.YtnhalfdddcjicaaGreatQJab
import Derived.Test.YtnhalfdddcjicaaGreatQJai
namespace Go.Proofs.YtnhalfdddcjicaaGreat
open Go.RowKit

abbrev Lk := List UInt8 × Nat
def lkCells (x : Lk) : List Value := [.string ⟨x.1.toArray⟩, .int .i64 (x.2 : Int)]
def linksT (t : Tb) (name : List UInt8) : Nat → List Lk
  | 0 => []
  | n + 1 => linksT t name n ++ (if (t.cols.getD n default).ref = name then [(t.name, n)] else [])
def linksS (tab : Nat → Tb) (name : List UInt8) : Nat → List Lk
  | 0 => []
  | k + 1 => linksS tab name k ++ linksT (tab k) name (tab k).cn
def linksOf (s : Sc) (name : List UInt8) : List Lk := if name = [] then [] else linksS s.tab name s.tn
theorem linksT_len (t : Tb) (name : List UInt8) : ∀ n, (linksT t name n).length ≤ n
  | 0 => by simp [linksT]
  | n + 1 => by
    have := linksT_len t name n
    rw [linksT, List.length_append]
    split <;> simp <;> omega
theorem linksS_len (tab : Nat → Tb) (name : List UInt8) : ∀ k, (linksS tab name k).length ≤ sumN k fun j => (tab j).cn
  | 0 => by simp [linksS]
  | k + 1 => by
    have h1 := linksS_len tab name k
    have h2 := linksT_len (tab k) name (tab k).cn
    rw [linksS, List.length_append, sumN_succ]
    omega
theorem linksT_pre (t : Tb) (name : List UInt8) {i n : Nat} (h : i ≤ n) : linksT t name i <+: linksT t name n := by
  induction n with
  | zero => obtain rfl : i = 0 := by omega
            exact List.prefix_refl _
  | succ n ih =>
    by_cases hi : i = n + 1
    · rw [hi]; exact List.prefix_refl _
    · rw [linksT]; exact (ih (by omega)).trans (List.prefix_append _ _)
theorem linksS_pre (tab : Nat → Tb) (name : List UInt8) {i n : Nat} (h : i ≤ n) : linksS tab name i <+: linksS tab name n := by
  induction n with
  | zero => obtain rfl : i = 0 := by omega
            exact List.prefix_refl _
  | succ n ih =>
    by_cases hi : i = n + 1
    · rw [hi]; exact List.prefix_refl _
    · rw [linksS]; exact (ih (by omega)).trans (List.prefix_append _ _)
/-- What is found at a place is the next of all. -/
theorem links_next (tab : Nat → Tb) (name : List UInt8) {k n i : Nat} (hk : k < n) (hi : i < (tab k).cn) (e : ((tab k).cols.getD i default).ref = name) :
    linksS tab name k ++ linksT (tab k) name i ++ [((tab k).name, i)] <+: linksS tab name n := by
  have h1 : linksT (tab k) name (i + 1) = linksT (tab k) name i ++ [((tab k).name, i)] := by rw [linksT, if_pos e]
  have h2 := linksT_pre (tab k) name (i := i + 1) (n := (tab k).cn) hi
  have h3 := linksS_pre tab name (i := k + 1) (n := n) hk
  rw [linksS] at h3
  rw [List.append_assoc, ← h1]
  exact ((List.prefix_append_right_inj _).2 h2).trans h3
theorem info_link : (Tryz.prog.info? 135).map (fun i => (i.zero, i.size, i.bytes)) = some (some (.agg #[.string ⟨#[]⟩, .int .i64 0]), 2, 24) := by kernel_rfl

theorem owns2_apart {w : World} {base g n k : Nat} {e t : TypeId} {v : Value} {xs : List Value} {cs : Array Value} (h : w.ownsRow base e k v n xs) (hg : At w g t cs) (hne : e ≠ t := by decide) : v.ownBlock ≠ some g := by
  rcases h.2 with ⟨rfl, _⟩ | ⟨g', cap, cur, rfl, _, hh, _⟩
  · intro h; simp [Value.ownBlock] at h
  · intro he
    obtain rfl : g' = g := Option.some.inj he
    exact hne (hg.type_eq hh).symm

set_option maxRecDepth 100000 in
set_option maxHeartbeats 3200000 in
theorem links_any (s : Sc) (name : List UInt8) (w : World) (hs : InS w s) (hw : wtS s ≤ 1048576) :
    Calls Tryz.prog 101 #[s.val, .string ⟨name.toArray⟩] w fun e w' => ∃ v, e = .returned v ∧ w'.ownsRow w.heap.size 135 2 v (linksOf s name).length ((linksOf s name).flatMap lkCells) ∧ Below w.heap.size w w' := by
  have H : Hid (linksOf s name = if name = [] then [] else linksS s.tab name s.tn) := rfl
  have b0 := below_box w (.cells #[.int .i64 s.ver, .slice s.tA s.tn s.tcap, .slice s.gA s.gn s.gcap] 25)
  have hsum : sumN s.tn (fun j => (s.tab j).cn) ≤ 1048576 := by
    refine Nat.le_trans (sumN_mono fun j _ => ?_) (Nat.le_trans (show sumN s.tn (fun j => wtT (s.tab j)) ≤ wtS s by unfold wtS; omega) hw)
    have hone : (s.tab j).cn ≤ sumN (s.tab j).cn (fun i => wtC ((s.tab j).cols.getD i default)) := by
      have : ∀ n (f : Nat → Nat), (∀ i, 1 ≤ f i) → n ≤ sumN n f := fun n f hf => by
        induction n with
        | zero => omega
        | succ n ih => rw [sumN_succ]; have := hf n; omega
      exact this _ _ fun i => by unfold wtC; omega
    unfold wtT
    omega
  by_cases hne : name = []
  · subst hne
    have HE := Lib.hid (H.out.trans (if_pos rfl))
    unfold Sc.val
    go_enter Tryz.func101, Tryz.ntmps101
    go_wp2_with fail
    go_ret
    exact ⟨_, rfl, by rw [HE.out]; exact World.ownsRow_nil _ _ _ 2, b0⟩
  obtain ⟨r1, r2, r3⟩ := empty_forms hne
  have HE := Lib.hid (H.out.trans (if_neg hne))
  have htm := hs.tmax
  have hT := hs.tabs
  unfold maxLen at htm
  clear hs hne H
  obtain ⟨ver, tA, tn, tcap, tab, gA, gn, gcap, gs⟩ := s
  unfold Sc.val
  simp only at HE b0 hsum htm hT ⊢
  go_enter Tryz.func101, Tryz.ntmps101
  go_wp2_with fail
  go_loopw [5, 15] (fun v i wr => ∃ (k : Nat), k ≤ tn ∧ i = .int .i64 k ∧ wr.ownsRow w.heap.size 135 2 v (linksS tab name k).length ((linksS tab name k).flatMap lkCells) ∧ Below w.heap.size w wr) (fun _ i _ => tn - (intOf i).toNat)
  case atStart => exact ⟨0, by omega, rfl, World.ownsRow_nil _ _ _ 2, b0⟩
  case round =>
    clear b0
    obtain ⟨k, hk, rfl, hown, hbr⟩ := hrel
    by_cases hlt : k < tn
    · obtain ⟨b, off, rfl, hbl, hcell⟩ := hT (by omega)
      obtain ⟨hcl, hin⟩ := hcell k hlt
      obtain ⟨c0, c1, c2, c3⟩ := hcl.keep fun i => hbr.cell (p := ⟨b, i, none⟩) hbl
      have HS : Hid (linksS tab name (k + 1) = linksS tab name k ++ linksT (tab k) name (tab k).cn) := rfl
      have hlS := linksS_len tab name k
      have hsum2 : sumN (k + 1) (fun j => (tab j).cn) ≤ 1048576 := Nat.le_trans (sumN_le _ hlt) hsum
      rw [sumN_succ] at hsum2
      have hLT := linksT_len (tab k) name
      have hLTn : ∀ n, Hid (linksT (tab k) name (n + 1) = linksT (tab k) name n ++ (if ((tab k).cols.getD n default).ref = name then [((tab k).name, n)] else [])) := fun _ => rfl
      have hLT0 : linksT (tab k) name 0 = [] := rfl
      clear hcell hcl
      generalize linksS tab name k = L at *
      generalize linksT (tab k) name = LT at *
      generalize tab k = t at *
      have hcols := hin.cols
      have hcm := hin.cmax
      unfold maxLen at hcm
      clear hin
      obtain ⟨nm, ow, cA, cn, ccap, cols, eA, en, ecap, chk⟩ := t
      simp only at c0 c1 c2 c3 hcm hcols HS hLTn hsum2
      have aT := At.fresh wr 32 #[.string ⟨nm.toArray⟩, .int .i64 ow, .slice cA cn ccap, .slice eA en ecap]
      have hb1 := hbr.alloc hbr.size (.cells #[.string ⟨nm.toArray⟩, .int .i64 ow, .slice cA cn ccap, .slice eA en ecap] 32)
      have hown1 := hown.alloc (.cells #[.string ⟨nm.toArray⟩, .int .i64 ow, .slice cA cn ccap, .slice eA en ecap] 32)
      have hwr := hbr.size
      go_wp2_with fail
      go_loopw [5, 22] (fun v i wx => ∃ (k' : Nat), k' ≤ cn ∧ i = .int .i64 k' ∧ wx.ownsRow w.heap.size 135 2 v (L ++ LT k').length ((L ++ LT k').flatMap lkCells) ∧ Below w.heap.size w wx ∧
        At wx wr.heap.size 32 #[.string ⟨nm.toArray⟩, .int .i64 ow, .slice cA cn ccap, .slice eA en ecap]) (fun _ i _ => cn - (intOf i).toNat)
      case atStart => exact ⟨0, by omega, rfl, by rw [hLT0, List.append_nil]; exact hown1, hb1, aT⟩
      case round =>
        clear hown hown1 hb1 aT c0 c1 c2 c3 hbr
        obtain ⟨k', hk', rfl, hown, hbx, aT⟩ := hrel
        by_cases hlt' : k' < cn
        · obtain ⟨b', off', rfl, hbl', hc'⟩ := hcols.2.2 (by omega)
          have hcell' := (hc' k' hlt').keep fun i => hbx.cell (p := ⟨b', i, none⟩) hbl'
          have HN := hLTn k'
          have hLk := hLT k'
          clear hc' hLTn hLT
          generalize cols.getD k' default = c at *
          obtain ⟨d0, d1, d2, d3, d4, d5⟩ := hcell'
          have hby := fun o => hbx.alloc hbx.size o
          have aTy := fun o => aT.alloc o
          have hne' := Nat.ne_of_lt aT.lt
          have hltx := aT.lt
          obtain ⟨t0, -⟩ := aT.four
          by_cases he : c.ref = name
          · have hd : (c.ref == name) = true := by simpa using he
            have HN2 := Lib.hid (HN.out.trans (by rw [if_pos he]))
            have hlen : (L ++ LT k').length + 1 ≤ 1000000000 := by rw [List.length_append]; omega
            have hoy := hown.alloc (.cells #[.string ⟨c.name.toArray⟩, .int .i64 c.kind, .bool c.nn, .bool c.un, .string ⟨c.ref.toArray⟩, .int .i64 c.del] 54)
            have hbase : w.heap.size ≤ (wr.alloc (.cells #[.string ⟨c.name.toArray⟩, .int .i64 c.kind, .bool c.nn, .bool c.un, .string ⟨c.ref.toArray⟩, .int .i64 c.del] 54)).heap.size := by have := hbx.size; simp; omega
            have hap := owns2_apart hown aT
            have hlo := World.ownsRow.lt hown
            clear HN he hown
            go_wp2_with (at_builtin; (refine wp_append1 rfl (.tmp 31) (.tmp 36) 133 rfl 135 2 24 _ Tryz.underlying133 info_link rfl (by omega) hoy #[.string ⟨nm.toArray⟩, .int .i64 (k' : Int)] 135 rfl rfl (World.size_alloc _ _) rfl ?c1 hlen (by omega) hbase ?_))
            case c1 => exact ⟨rfl, rfl⟩
            intro g cap w5 ho5 hg5 hlt5
            have HO5 := Lib.hid ho5
            clear ho5
            have aT5 := At.grown (aTy (.cells #[.string ⟨c.name.toArray⟩, .int .i64 c.kind, .bool c.nn, .bool c.un, .string ⟨c.ref.toArray⟩, .int .i64 c.del] 54)) hg5.grown (fun e => hap e.symm)
            have b5 := (hby (.cells #[.string ⟨c.name.toArray⟩, .int .i64 c.kind, .bool c.nn, .bool c.un, .string ⟨c.ref.toArray⟩, .int .i64 c.del] 54)).grown hg5.grown hbase (fun k h => (hlo k h).1)
            go_wp2_with fail
            refine ⟨⟨k' + 1, by omega, by go_num, ?_, b5, aT5⟩, by simp [intOf]; omega⟩
            rw [HN2.out, ← List.append_assoc, List.flatMap_append, show (L ++ LT k' ++ [(nm, k')]).length = (L ++ LT k').length + 1 by simp only [List.length_append, List.length_cons, List.length_nil]]
            have e1 : (L ++ LT k').length = L.length + (LT k').length := List.length_append
            have e2 : (L ++ LT k').flatMap lkCells = L.flatMap lkCells ++ (LT k').flatMap lkCells := List.flatMap_append
            rw [e1, e2, List.append_assoc]
            exact HO5.out
          · have hd : (c.ref == name) = false := by simpa using he
            have HN2 := Lib.hid (HN.out.trans (by rw [if_neg he, List.append_nil]))
            clear HN he
            have hoy := fun o => hown.alloc o
            go_wp2_with fail
            exact ⟨⟨k' + 1, by omega, by go_num, by rw [HN2.out]; exact hoy _, hby _, aTy _⟩, by simp [intOf]; omega⟩
        · obtain rfl : k' = cn := by omega
          clear hcols hLTn hLT
          go_wp2_with fail
          exact ⟨⟨k + 1, by omega, by go_num, by rw [HS.out]; exact hown, hbx⟩, by simp [intOf]; omega⟩
    · obtain rfl : k = tn := by omega
      go_wp2_with fail
      go_ret
      exact ⟨_, rfl, by rw [HE.out]; exact hown, hbr⟩
end Go.Proofs.YtnhalfdddcjicaaGreat

namespace Go.Proofs.YtnhalfdddcjicaaGreat
open Go.Op (bytesLess)

theorem bl_irr : ∀ x : List UInt8, bytesLess x x = false
  | [] => rfl
  | a :: x => by rw [less_same]; exact bl_irr x
theorem bl_tri : ∀ x y : List UInt8, bytesLess x y = false → bytesLess y x = false → x = y
  | [], [], _, _ => rfl
  | [], _ :: _, h, _ => by cases h
  | _ :: _, [], _, h => by cases h
  | a :: x, b :: y, h1, h2 => by
    rcases Nat.lt_trichotomy a.toNat b.toNat with h | h | h
    · rw [less_lt h] at h1; cases h1
    · obtain rfl : a = b := UInt8.toNat_inj.1 h
      rw [less_same] at h1 h2
      rw [bl_tri x y h1 h2]
    · rw [less_lt h] at h2; cases h2
theorem bl_nil (x : List UInt8) : bytesLess x [] = false := by cases x <;> rfl
theorem bl_trans : ∀ x y z : List UInt8, bytesLess x y = true → bytesLess y z = true → bytesLess x z = true := by
  intro x
  induction x with
  | nil =>
    intro y z h1 h2
    cases z with
    | nil => rw [bl_nil] at h2; cases h2
    | cons c z => rfl
  | cons a x ih =>
    intro y z h1 h2
    cases y with
    | nil => rw [bl_nil] at h1; cases h1
    | cons b y =>
      cases z with
      | nil => rw [bl_nil] at h2; cases h2
      | cons c z =>
        rcases Nat.lt_trichotomy a.toNat b.toNat with h | h | h
        · rcases Nat.lt_trichotomy b.toNat c.toNat with k | k | k
          · exact less_lt (by omega) _ _
          · exact less_lt (by omega) _ _
          · rw [less_gt k] at h2; cases h2
        · obtain rfl : a = b := UInt8.toNat_inj.1 h
          rcases Nat.lt_trichotomy a.toNat c.toNat with k | k | k
          · exact less_lt k _ _
          · obtain rfl : a = c := UInt8.toNat_inj.1 k
            rw [less_same] at h1 h2 ⊢
            exact ih y z h1 h2
          · rw [less_gt k] at h2; cases h2
        · rw [less_gt h] at h1; cases h1
theorem bl_asym {x y : List UInt8} (h : bytesLess x y = true) : bytesLess y x = false := by
  cases e : bytesLess y x with
  | false => rfl
  | true => rw [← bl_irr x, bl_trans x y x h e]

/-- By roles, then by tables. -/
def ltK (r : Int) (t : List UInt8) (r' : Int) (t' : List UInt8) : Bool := decide (r < r') || (decide (r = r') && bytesLess t t')
theorem ltK_lt {r r' : Int} (h : r < r') (t t' : List UInt8) : ltK r t r' t' = true := by unfold ltK; rw [decide_eq_true h]; rfl
theorem ltK_gt {r r' : Int} (h : r' < r) (t t' : List UInt8) : ltK r t r' t' = false := by
  unfold ltK; rw [decide_eq_false (by omega), decide_eq_false (by omega)]; rfl
theorem ltK_eq (r : Int) (t t' : List UInt8) : ltK r t r t' = bytesLess t t' := by
  unfold ltK; rw [decide_eq_false (by omega)]; simp
theorem ltK_irr (r : Int) (t : List UInt8) : ltK r t r t = false := by rw [ltK_eq, bl_irr]
theorem ltK_tri {r r' : Int} {t t' : List UInt8} (h1 : ltK r t r' t' = false) (h2 : ltK r' t' r t = false) : r = r' ∧ t = t' := by
  rcases Int.lt_trichotomy r r' with h | h | h
  · rw [ltK_lt h] at h1; cases h1
  · subst h; rw [ltK_eq] at h1 h2; exact ⟨rfl, bl_tri _ _ h1 h2⟩
  · rw [ltK_lt h] at h2; cases h2
theorem ltK_trans {r r' r2 : Int} {t t' t2 : List UInt8} (h1 : ltK r t r' t' = true) (h2 : ltK r' t' r2 t2 = true) : ltK r t r2 t2 = true := by
  rcases Int.lt_trichotomy r r' with h | h | h
  · rcases Int.lt_trichotomy r' r2 with k | k | k
    · exact ltK_lt (by omega) _ _
    · exact ltK_lt (by omega) _ _
    · rw [ltK_gt k] at h2; cases h2
  · subst h
    rcases Int.lt_trichotomy r r2 with k | k | k
    · exact ltK_lt k _ _
    · subst k
      rw [ltK_eq] at h1 h2 ⊢
      exact bl_trans _ _ _ h1 h2
    · rw [ltK_gt k] at h2; cases h2
  · rw [ltK_gt h] at h1; cases h1
theorem ltK_asym {r r' : Int} {t t' : List UInt8} (h : ltK r t r' t' = true) : ltK r' t' r t = false := by
  cases e : ltK r' t' r t with
  | false => rfl
  | true => rw [← ltK_irr r t, ltK_trans h e]
theorem ltK_ne {r r' : Int} {t t' : List UInt8} (h : ltK r t r' t' = true) : ¬ (r = r' ∧ t = t') := by
  rintro ⟨rfl, rfl⟩
  rw [ltK_irr] at h; cases h

/-- What the program's comparison answers. -/
def cmpRT (r : Int) (t : List UInt8) (r' : Int) (t' : List UInt8) : Int := if ltK r t r' t' = true then -1 else if ltK r' t' r t = true then 1 else 0
theorem cmpRT_neg {r r' : Int} {t t' : List UInt8} : cmpRT r t r' t' < 0 ↔ ltK r t r' t' = true := by
  unfold cmpRT
  split
  · rename_i h; simp [h]
  · rename_i h
    split <;> simp [h]
theorem cmpRT_zero {r r' : Int} {t t' : List UInt8} : cmpRT r t r' t' = 0 ↔ r = r' ∧ t = t' := by
  unfold cmpRT
  split
  · rename_i h
    exact ⟨fun e => (by cases e), fun e => absurd e (ltK_ne h)⟩
  · rename_i h
    split
    · rename_i h2
      exact ⟨fun e => (by cases e), fun e => absurd ⟨e.1.symm, e.2.symm⟩ (ltK_ne h2)⟩
    · rename_i h2
      exact ⟨fun _ => ltK_tri (by simpa using h) (by simpa using h2), fun _ => rfl⟩

abbrev atG (gs : List Gr) (j : Nat) : Gr := gs.getD j default
def goodG (g : Gr) : Bool := decide (1 ≤ g.role ∧ g.role ≤ 7) && (nameN g.table && decide (1 ≤ g.bits ∧ g.bits ≤ 31))
def ltG (a b : Gr) : Bool := ltK a.role a.table b.role b.table
/-- A list is sorted. -/
def SortedG (gs : List Gr) : Prop := gs.length ≤ 64 ∧ (∀ j, j < gs.length → goodG (atG gs j) = true) ∧ ∀ j, j < gs.length → ∀ i, i < j → ltG (atG gs i) (atG gs j) = true
instance (gs : List Gr) : Decidable (SortedG gs) := by unfold SortedG; infer_instance
theorem sorted_of_next {gs : List Gr} (h : ∀ j, j + 1 < gs.length → ltG (atG gs j) (atG gs (j + 1)) = true) : ∀ j, j < gs.length → ∀ i, i < j → ltG (atG gs i) (atG gs j) = true
  | 0, _, i, hi => by omega
  | j + 1, hj, i, hi => by
    by_cases e : i = j
    · rw [e]; exact h j hj
    · exact ltK_trans (sorted_of_next h j (by omega) i (by omega)) (h j hj)
/-- What a role has of a table: of the first grant that tells. -/
def bitsG (r : Int) (t : List UInt8) : List Gr → Int
  | [] => 0
  | g :: l => if g.role = r ∧ g.table = t then g.bits else bitsG r t l
theorem bitsG_hit {r : Int} {t : List UInt8} : ∀ {gs : List Gr} {k : Nat}, k < gs.length → (∀ j, j < k → ¬ ((atG gs j).role = r ∧ (atG gs j).table = t)) → (atG gs k).role = r → (atG gs k).table = t → bitsG r t gs = (atG gs k).bits
  | [], _, h, _, _, _ => absurd h (Nat.not_lt_zero _)
  | g :: l, 0, _, _, h1, h2 => by
    rw [bitsG, if_pos ⟨h1, h2⟩]; rfl
  | g :: l, k + 1, h, hn, h1, h2 => by
    rw [bitsG, if_neg (show ¬ (g.role = r ∧ g.table = t) from hn 0 (by omega))]
    exact bitsG_hit (gs := l) (k := k) (by simpa using h) (fun j hj => hn (j + 1) (by omega)) h1 h2
theorem bitsG_none {r : Int} {t : List UInt8} : ∀ {gs : List Gr}, (∀ j, j < gs.length → ¬ ((atG gs j).role = r ∧ (atG gs j).table = t)) → bitsG r t gs = 0
  | [], _ => rfl
  | g :: l, h => by
    rw [bitsG, if_neg (show ¬ (g.role = r ∧ g.table = t) from h 0 (by simp))]
    exact bitsG_none (gs := l) fun j hj => h (j + 1) (by simpa using hj)
end Go.Proofs.YtnhalfdddcjicaaGreat

namespace Go.Proofs.YtnhalfdddcjicaaGreat
open Go.RowKit

set_option maxRecDepth 100000 in
set_option maxHeartbeats 8000000 in
theorem refName_any (l : List UInt8) (hl : l.length ≤ maxLen) (w : World) : Calls Tryz.prog 37 #[.string ⟨l.toArray⟩] w fun e w' => e = .returned (.bool (nameN l)) ∧ w = w' := by
  unfold maxLen at hl
  go_enter Tryz.func37, Tryz.ntmps37
  go_wp2_with fail
  go_loop [3] (fun i => ∃ k : Nat, k ≤ l.length ∧ i = .int .i64 k ∧ Hid (∀ j, j < k → okAt j (l.getD j 0).toNat = true)) (fun i => l.length - (intOf i).toNat)
  case atStart => exact ⟨0, by omega, rfl, fun j hj => absurd hj (by omega)⟩
  case round =>
    obtain ⟨k, hk, rfl, HA⟩ := hrel
    by_cases hlt : k < l.length
    · have hix := fun (ww : World) => run_index_list (P := Tryz.prog) 9 l (k : Int) k _ Tryz.underlying9 rfl hlt rfl ww
      have HB := Lib.hid (@name_bad l k hlt)
      have HO : Hid (okAt k (l.getD k 0).toNat = (lowerB (l.getD k 0).toNat || (!decide (k = 0) && (digitB (l.getD k 0).toNat || decide ((l.getD k 0).toNat = 95))))) := rfl
      obtain ⟨x, hx⟩ : ∃ x, (l.getD k 0).toNat = x := ⟨_, rfl⟩
      have HX := Lib.hid hx
      rw [hx] at hix HB HO
      clear hx
      have HD : Hid (digitB x = (decide (48 ≤ x) && decide (x ≤ 57))) := rfl
      have HL : Hid (lowerB x = (decide (97 ≤ x) && decide (x ≤ 122))) := rfl
      have next : okAt k x = true → Hid (∀ j, j < k + 1 → okAt j (l.getD j 0).toNat = true) := fun ho j hj => by
        by_cases hjk : j = k
        · subst hjk; rw [HX.out]; exact ho
        · exact HA.out j (by omega)
      have NX := Lib.hid next
      clear next
      by_cases h97 : 97 ≤ x ∧ x ≤ 122
      · have g1 : decide ((97 : Int) ≤ x) = true := by simp; omega
        have g2 : decide ((x : Int) ≤ 122) = true := by simp; omega
        have hn := NX.out (by rw [HO.out, HL.out]; simp [h97])
        clear HB HO NX HX HA HD HL h97
        go_wp2_with fail
        exact ⟨⟨_ + 1, by omega, by go_num, hn⟩, by simp [intOf]; omega⟩
      · have hlo : lowerB x = false := by rw [HL.out]; simp; omega
        rw [hlo] at HO
        clear HL hlo
        have low : (decide ((97 : Int) ≤ x) = true ∧ decide ((x : Int) ≤ 122) = false) ∨ decide ((97 : Int) ≤ x) = false := by simp; omega
        by_cases hk0 : k = 0
        · have hn := Lib.hid (HB.out (by rw [HO.out]; simp [hk0]))
          subst hk0
          have hix := fun (ww : World) => run_index_list (P := Tryz.prog) 9 l 0 0 x Tryz.underlying9 rfl hlt HX.out ww
          clear HB HO NX HX HA HD h97
          rcases low with ⟨g1, g2⟩ | g1
          all_goals
            go_wp2_with fail
            go_ret
            exact ⟨ret_b hn.out.symm, rfl⟩
        · have e0 : ((k : Int) == 0) = false := by simp; omega
          by_cases h95 : x = 95
          · have g1 : decide ((97 : Int) ≤ x) = false := by simp; omega
            have e95 : ((x : Int) != 95) = false := by simp; omega
            have hn := NX.out (by rw [HO.out]; simp [hk0, h95])
            clear HB HO NX HX HA HD h97 low
            go_wp2_with fail
            exact ⟨⟨_ + 1, by omega, by go_num, hn⟩, by simp [intOf]; omega⟩
          · have e95 : ((x : Int) != 95) = true := by simp; omega
            by_cases h48 : 48 ≤ x ∧ x ≤ 57
            · have g1 : decide ((97 : Int) ≤ x) = false := by simp; omega
              have g3 : decide ((x : Int) < 48) = false := by simp; omega
              have g4 : decide ((57 : Int) < x) = false := by simp; omega
              have hn := NX.out (by rw [HO.out, HD.out]; simp [hk0, h48])
              clear HB HO NX HX HA HD h97 low
              go_wp2_with fail
              exact ⟨⟨_ + 1, by omega, by go_num, hn⟩, by simp [intOf]; omega⟩
            · have hn := Lib.hid (HB.out (by rw [HO.out, HD.out]; simp [h95]; omega))
              clear HB HO NX HX HA HD
              by_cases h3 : x < 48
              · have g1 : decide ((97 : Int) ≤ x) = false := by simp; omega
                have g3 : decide ((x : Int) < 48) = true := by simp; omega
                clear low h97 h48
                go_wp2_with fail
                go_ret
                exact ⟨ret_b hn.out.symm, rfl⟩
              · have g3 : decide ((x : Int) < 48) = false := by simp; omega
                have g4 : decide ((57 : Int) < x) = true := by simp; omega
                clear h97 h48
                rcases low with ⟨g1, g2⟩ | g1
                all_goals
                  go_wp2_with fail
                  go_ret
                  exact ⟨ret_b hn.out.symm, rfl⟩
    · have hkl : k = l.length := by omega
      have HN := Lib.hid (name_all (l := l) (by rw [← hkl]; exact HA.out))
      by_cases h0 : 1 ≤ l.length
      · have g1 : decide ((1 : Int) ≤ l.length) = true := by simp; omega
        go_wp2_with fail
        go_ret
        exact ⟨ret_b (by rw [HN.out]; simp [h0]; omega), rfl⟩
      · have g1 : decide ((1 : Int) ≤ l.length) = false := by simp; omega
        go_wp2_with fail
        go_ret
        exact ⟨ret_b (by rw [HN.out]; simp [h0]), rfl⟩
end Go.Proofs.YtnhalfdddcjicaaGreat
