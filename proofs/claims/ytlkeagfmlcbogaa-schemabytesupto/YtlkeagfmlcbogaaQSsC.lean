/- The reference's fits, Fits, and Same of two schemas that are zero. -/
import Derived.Test.YtlkeagfmlcbogaaQSsB
namespace Go.Proofs.Ytlkeagfmlcbogaa
open Go.RowKit

theorem all_tree {n : Nat} {f : Nat → Ex} {p : Et → Bool} : (((List.range n).map fun j => treeE (f j)).all p) = true ↔ ∀ j, j < n → p (treeE (f j)) = true := by
  simp [List.all_eq_true]
theorem fitsE_zero (op col : Int) (v : Vl) (A : Option Addr) (n cap : Nat) (arg : Nat → Ex) : fitsE 0 (treeE (.mk op col v A n cap arg)) = (goodV v && decide (n ≤ 0)) := by
  rw [treeE, fitsE]; simp
theorem fitsE_succ (lv : Nat) (op col : Int) (v : Vl) (A : Option Addr) (n cap : Nat) (arg : Nat → Ex) : fitsE (lv + 1) (treeE (.mk op col v A n cap arg)) = (goodV v && (decide (n ≤ 2) && ((List.range n).map fun j => treeE (arg j)).all (fitsE lv))) := by
  rw [treeE, fitsE]; simp
theorem fits_bad (lv : Nat) (op col : Int) (v : Vl) (A : Option Addr) (n cap : Nat) (arg : Nat → Ex) (h : goodV v = false ∨ 2 < n ∨ (lv = 0 ∧ 0 < n)) : fitsE lv (treeE (.mk op col v A n cap arg)) = false := by
  cases lv with
  | zero =>
    rw [fitsE_zero]
    rcases h with h | h | h
    · rw [h]; rfl
    · rw [decide_eq_false (by omega)]; simp
    · rw [decide_eq_false (by omega)]; simp
  | succ lv =>
    rw [fitsE_succ]
    rcases h with h | h | h
    · rw [h]; rfl
    · rw [decide_eq_false (by omega : ¬ n ≤ 2)]; simp
    · omega
theorem fits_true (lv : Nat) (op col : Int) (v : Vl) (A : Option Addr) (n cap : Nat) (arg : Nat → Ex) (h : goodV v = true) (h2 : n ≤ 2) (h0 : lv = 0 → n = 0) (ha : ∀ j, j < n → fitsE (lv - 1) (treeE (arg j)) = true) : fitsE lv (treeE (.mk op col v A n cap arg)) = true := by
  cases lv with
  | zero => rw [fitsE_zero, h, h0 rfl]; rfl
  | succ lv =>
    rw [Nat.add_sub_cancel] at ha
    rw [fitsE_succ, h, decide_eq_true h2, all_tree.2 ha]; rfl
theorem fits_some (lv : Nat) (op col : Int) (v : Vl) (A : Option Addr) (n cap : Nat) (arg : Nat → Ex) {j : Nat} (hj : j < n) (ha : fitsE (lv - 1) (treeE (arg j)) = false) : fitsE lv (treeE (.mk op col v A n cap arg)) = false := by
  cases lv with
  | zero => exact fits_bad 0 op col v A n cap arg (.inr (.inr ⟨rfl, by omega⟩))
  | succ lv =>
    rw [Nat.add_sub_cancel] at ha
    rw [fitsE_succ]
    have : ((List.range n).map fun j => treeE (arg j)).all (fitsE lv) = false := by
      cases e : ((List.range n).map fun j => treeE (arg j)).all (fitsE lv) with
      | false => rfl
      | true => rw [all_tree] at e; rw [e j hj] at ha; cases ha
    rw [this]; simp

set_option maxRecDepth 100000 in
set_option maxHeartbeats 3200000 in
theorem rfits_any (e : Ex) : ∀ (lv : Nat) (w : World), lv ≤ 100 → InE w e → Calls Try.prog 33 #[e.val, .int .i64 (lv : Int)] w fun en w' => en = .returned (.bool (fitsE lv (treeE e))) ∧ Below w.heap.size w w' := by
  induction e with
  | nil => intro lv w _ h; exact h.elim
  | mk op col v A n cap arg ih =>
    intro lv w hlv ha
    rw [InE] at ha
    obtain ⟨i1, i2, hv, hn, harg⟩ := ha
    unfold maxLen at hn
    have HV := Lib.hid hv
    have hbad := fits_bad lv op col v A n cap arg
    have htrue := fits_true lv op col v A n cap arg
    have hsome := fun j hj h => fits_some lv op col v A n cap arg (j := j) hj h
    generalize fitsE lv (treeE (.mk op col v A n cap arg)) = R at *
    obtain ⟨vk, vn, vt⟩ := v
    have hg := fun w' => rgood_any ⟨vk, vn, vt⟩ HV.out w'
    clear i1 i2 hv
    simp only [Ex.val, Ex.op, Ex.col, Ex.v, Ex.A, Ex.n, Ex.cap]
    have b0 := below_box w (.cells #[.int .i64 op, .int .i64 col, .int .i64 vk, .int .i64 vn, .string ⟨vt.toArray⟩, .slice A n cap] 45)
    have hA := At.fresh w 45 #[.int .i64 op, .int .i64 col, .int .i64 vk, .int .i64 vn, .string ⟨vt.toArray⟩, .slice A n cap]
    by_cases hgv : goodV ⟨vk, vn, vt⟩ = true
    · rw [hgv] at hg
      by_cases h2 : n ≤ 2
      · by_cases h0 : lv = 0 ∧ 0 < n
        · rw [hbad (.inr (.inr h0))]
          obtain ⟨h00, h01⟩ := h0
          subst h00
          clear ih hbad htrue hsome
          go_enter Try.func33, Try.ntmps33
          go_wp2_with fail
          refine (hg _).mono ?_
          rintro e w1 ⟨rfl, b1⟩
          obtain ⟨c0, c1, c2, c3, c4, c5⟩ := (hA.below b1 hA.lt).six
          have hb1 := below_in b0 b1
          go_wp2_with fail
          go_ret
          exact ⟨rfl, hb1⟩
        · clear hbad
          by_cases hz : lv = 0
          · obtain rfl : n = 0 := by omega
            subst hz
            have hr := htrue hgv h2 (fun _ => rfl) (fun j hj => absurd hj (Nat.not_lt_zero j))
            clear ih hsome htrue h0
            go_enter Try.func33, Try.ntmps33
            go_wp2_with fail
            refine (hg _).mono ?_
            rintro e w1 ⟨rfl, b1⟩
            obtain ⟨c0, c1, c2, c3, c4, c5⟩ := (hA.below b1 hA.lt).six
            have hb1 := below_in b0 b1
            clear hA b0 b1
            go_wp2_with fail
            go_loopw [30] (fun i wr => i = .int .i64 0 ∧ Below w.heap.size w wr) (fun i _ => 0)
            case atStart => exact ⟨rfl, hb1⟩
            case round =>
              obtain ⟨rfl, hbw⟩ := hrel
              go_wp2_with fail
              go_ret
              exact ⟨by rw [hr]; rfl, hbw⟩
          · have hz0 : ¬ (lv : Int) = 0 := by omega
            go_enter Try.func33, Try.ntmps33
            go_wp2_with fail
            refine (hg _).mono ?_
            rintro e w1 ⟨rfl, b1⟩
            obtain ⟨c0, c1, c2, c3, c4, c5⟩ := (hA.below b1 hA.lt).six
            have hb1 := below_in b0 b1
            clear hA b0 b1 h0
            go_wp2_with fail
            all_goals
              clear c0 c1 c2 c3 c4
              go_loopw [30] (fun i wr => ∃ (k : Nat), k ≤ n ∧ i = .int .i64 k ∧ (∀ j, j < k → fitsE (lv - 1) (treeE (arg j)) = true) ∧ Below w.heap.size w wr) (fun i _ => n - (intOf i).toNat)
              case atStart => exact ⟨0, by omega, rfl, fun j hj => by omega, hb1⟩
              case round =>
                obtain ⟨k, hk, rfl, hall, hbw⟩ := hrel
                by_cases hlt : k < n
                · obtain ⟨b, off, rfl, hbl, hcell⟩ := harg (by omega)
                  obtain ⟨x0, x1, x2, x3, x4, x5⟩ := (hcell k hlt).1.keep fun i => hbw.cell (p := ⟨b, i, none⟩) hbl
                  have hi := (hcell k hlt).2.below hbw
                  have he : ((lv - 1 : Nat) : Int) = (lv : Int) - 1 := by omega
                  have hwr : IntKind.i64.wrap ((lv : Int) - 1) = (lv : Int) - 1 := by rw [IntKind.wrap_i64] <;> omega
                  have hc := fun w' (b' : Below wr.heap.size wr w') => ih k (lv - 1) w' (by omega) (hi.below b')
                  rw [he] at hc
                  unfold Ex.val at hc
                  have hsk := hsome k hlt
                  clear hcell hi harg ih he hsome
                  cases hf : fitsE (lv - 1) (treeE (arg k)) with
                  | false =>
                    rw [hf] at hc
                    go_wp2_with fail
                    have b0 := below_box wr (.cells #[.int .i64 (arg k).op, .int .i64 (arg k).col, .int .i64 (arg k).v.kind, .int .i64 (arg k).v.num, .string ⟨(arg k).v.text.toArray⟩, .slice (arg k).A (arg k).n (arg k).cap] 45)
                    refine (hc _ b0).mono ?_
                    rintro e w2 ⟨rfl, b2⟩
                    have hb2 := below_in hbw (below_in b0 b2)
                    go_wp2_with fail
                    go_ret
                    exact ⟨by rw [hsk hf]; rfl, hb2⟩
                  | true =>
                    rw [hf] at hc
                    go_wp2_with fail
                    have b0 := below_box wr (.cells #[.int .i64 (arg k).op, .int .i64 (arg k).col, .int .i64 (arg k).v.kind, .int .i64 (arg k).v.num, .string ⟨(arg k).v.text.toArray⟩, .slice (arg k).A (arg k).n (arg k).cap] 45)
                    refine (hc _ b0).mono ?_
                    rintro e w2 ⟨rfl, b2⟩
                    have hb2 := below_in hbw (below_in b0 b2)
                    clear hc
                    go_wp2_with fail
                    exact ⟨⟨k + 1, by omega, by go_num, fun j hj => by
                      by_cases hjk : j = k
                      · rw [hjk]; exact hf
                      · exact hall j (by omega), hb2⟩, by simp [intOf]; omega⟩
                · obtain rfl : n = k := by omega
                  have hr := htrue hgv h2 (by omega) hall
                  go_wp2_with fail
                  go_ret
                  exact ⟨by rw [hr]; rfl, hbw⟩
      · rw [hbad (.inr (.inl (by omega)))]
        clear ih hbad htrue hsome
        go_enter Try.func33, Try.ntmps33
        go_wp2_with fail
        refine (hg _).mono ?_
        rintro e w1 ⟨rfl, b1⟩
        obtain ⟨c0, c1, c2, c3, c4, c5⟩ := (hA.below b1 hA.lt).six
        have hb1 := below_in b0 b1
        go_wp2_with fail
        go_ret
        exact ⟨rfl, hb1⟩
    · rw [Bool.not_eq_true] at hgv
      rw [hgv] at hg
      rw [hbad (.inl hgv)]
      clear ih hbad htrue hsome
      go_enter Try.func33, Try.ntmps33
      go_wp2_with fail
      refine (hg _).mono ?_
      rintro e w1 ⟨rfl, b1⟩
      have hb1 := below_in b0 b1
      go_wp2_with fail
      go_ret
      exact ⟨rfl, hb1⟩

theorem fitsT_is (t : Tb) : fitsT (treeT t) = (decide (t.cols.length ≤ 6) && (decide (t.en ≤ 4) && ((List.range t.en).map fun j => treeE (t.chk j)).all (fitsE 8))) := by
  unfold fitsT treeT
  simp
theorem fitsT_bad {t : Tb} (h : 6 < t.cols.length ∨ 4 < t.en) : fitsT (treeT t) = false := by
  rw [fitsT_is]
  rcases h with h | h
  · rw [decide_eq_false (by omega)]; rfl
  · rw [decide_eq_false (by omega : ¬ t.en ≤ 4)]; simp
theorem fitsT_true {t : Tb} (h : t.cols.length ≤ 6) (h2 : t.en ≤ 4) (ha : ∀ j, j < t.en → fitsE 8 (treeE (t.chk j)) = true) : fitsT (treeT t) = true := by
  rw [fitsT_is, decide_eq_true h, decide_eq_true h2, all_tree.2 ha]; rfl
theorem fitsT_some {t : Tb} {j : Nat} (hj : j < t.en) (ha : fitsE 8 (treeE (t.chk j)) = false) : fitsT (treeT t) = false := by
  rw [fitsT_is]
  have : ((List.range t.en).map fun j => treeE (t.chk j)).all (fitsE 8) = false := by
    cases e : ((List.range t.en).map fun j => treeE (t.chk j)).all (fitsE 8) with
    | false => rfl
    | true => rw [all_tree] at e; rw [e j hj] at ha; cases ha
  rw [this]; simp
theorem all_treeT {n : Nat} {f : Nat → Tb} {p : Td → Bool} : (((List.range n).map fun j => treeT (f j)).all p) = true ↔ ∀ j, j < n → p (treeT (f j)) = true := by
  simp [List.all_eq_true]
theorem fitsS_is (s : Sc) : fitsS (treeS s) = (decide (s.tn ≤ 12) && (decide (s.grants.length ≤ 64) && ((List.range s.tn).map fun j => treeT (s.tab j)).all fitsT)) := by
  unfold fitsS treeS
  simp
theorem fitsS_bad {s : Sc} (h : 12 < s.tn ∨ 64 < s.grants.length) : fitsS (treeS s) = false := by
  rw [fitsS_is]
  rcases h with h | h
  · rw [decide_eq_false (by omega)]; rfl
  · rw [decide_eq_false (by omega : ¬ s.grants.length ≤ 64)]; simp
theorem fitsS_true {s : Sc} (h : s.tn ≤ 12) (h2 : s.grants.length ≤ 64) (ha : ∀ j, j < s.tn → fitsT (treeT (s.tab j)) = true) : fitsS (treeS s) = true := by
  rw [fitsS_is, decide_eq_true h, decide_eq_true h2, all_treeT.2 ha]; rfl
theorem fitsS_some {s : Sc} {j : Nat} (hj : j < s.tn) (ha : fitsT (treeT (s.tab j)) = false) : fitsS (treeS s) = false := by
  rw [fitsS_is]
  have : ((List.range s.tn).map fun j => treeT (s.tab j)).all fitsT = false := by
    cases e : ((List.range s.tn).map fun j => treeT (s.tab j)).all fitsT with
    | false => rfl
    | true => rw [all_treeT] at e; rw [e j hj] at ha; cases ha
  rw [this]; simp

set_option maxRecDepth 100000 in
set_option maxHeartbeats 3200000 in
theorem rfitsS_any (s : Sc) (w : World) (hs : InS w s) : Calls Try.prog 10 #[s.val] w fun e w' => e = .returned (.bool (fitsS (treeS s))) ∧ Below w.heap.size w w' := by
  have hbad := fitsS_bad (s := s)
  have htrue := fitsS_true (s := s)
  have hsome := fun j hj h => fitsS_some (s := s) (j := j) hj h
  generalize fitsS (treeS s) = R at *
  obtain ⟨ver, tA, tn, tcap, tab, gA, gn, gcap, gs⟩ := s
  obtain ⟨i1, htm, hgm, hT, hG⟩ := hs
  simp only at htm hgm hT hG hbad htrue hsome
  have hgl := hG.1
  rw [hgl] at hbad htrue
  unfold maxLen at htm hgm
  clear i1 hG hgl
  simp only [Sc.val]
  have b0 := below_box w (.cells #[.int .i64 ver, .slice tA tn tcap, .slice gA gn gcap] 25)
  by_cases h12 : tn ≤ 12
  · by_cases h64 : gn ≤ 64
    · clear hbad
      go_enter Try.func10, Try.ntmps10
      go_wp2_with fail
      go_loopw [20] (fun i wr => ∃ (k : Nat), k ≤ tn ∧ i = .int .i64 k ∧ (∀ j, j < k → fitsT (treeT (tab j)) = true) ∧ Below w.heap.size w wr) (fun i _ => tn - (intOf i).toNat)
      case atStart => exact ⟨0, by omega, rfl, fun j hj => by omega, b0⟩
      case round =>
        obtain ⟨k, hk, rfl, hall, hbr⟩ := hrel
        by_cases hlt : k < tn
        · obtain ⟨b, off, rfl, hbl, hcell⟩ := hT (by omega)
          obtain ⟨t0, t1, t2, t3⟩ := (hcell k hlt).1.keep fun i => hbr.cell (p := ⟨b, i, none⟩) hbl
          have hin := (hcell k hlt).2.below hbr
          have hsk := hsome k hlt
          have hT0 := fitsT_bad (t := tab k)
          have hT1 := fitsT_true (t := tab k)
          have hT2 := fun j hj h => fitsT_some (t := tab k) (j := j) hj h
          have hall2 : fitsT (treeT (tab k)) = true → ∀ j, j < k + 1 → fitsT (treeT (tab j)) = true := fun h j hj => by
            by_cases hjk : j = k
            · rw [hjk]; exact h
            · exact hall j (by omega)
          clear hcell hall
          generalize fitsT (treeT (tab k)) = RT at *
          generalize tab k = t at *
          obtain ⟨nm, ow, cA, cn, ccap, cols, eA, en, ecap, chk⟩ := t
          obtain ⟨iow, -, hcm, hem, hC, hE⟩ := hin
          simp only at t0 t1 t2 t3 hcm hem hC hE hT0 hT1 hT2
          have hcl := hC.1
          rw [hcl] at hT0 hT1
          unfold maxLen at hcm hem
          clear iow hC hcl
          have hb0 := below_box wr (.cells #[.string ⟨nm.toArray⟩, .int .i64 ow, .slice cA cn ccap, .slice eA en ecap] 39)
          have hb1 := below_in hbr hb0
          by_cases h6 : cn ≤ 6
          · by_cases h4 : en ≤ 4
            · clear hT0 b0
              have hZc : (fun (Z : Nat) (wo : World) => RowE wo eA en chk ∧ wo.heap.size = Z) wr.heap.size wr := ⟨hE, rfl⟩
              go_wp2_with fail
              generalize hZ : wr.heap.size = Z at *
              obtain ⟨wo, hwo⟩ : ∃ wo, wo = wr := ⟨_, rfl⟩
              rw [← hwo] at hE hb0 hZ
              have hb2 : Below Z wo (wr.alloc (.cells #[.string ⟨nm.toArray⟩, .int .i64 ow, .slice cA cn ccap, .slice eA en ecap] 39)) := by rw [← hwo]; exact hb0
              clear hwo hb0 hZc
              go_loopw [37] (fun i wx => ∃ (k3 : Nat), k3 ≤ en ∧ i = .int .i64 k3 ∧ (∀ j, j < k3 → fitsE 8 (treeE (chk j)) = true) ∧ Below w.heap.size w wx ∧ Below Z wo wx) (fun i _ => en - (intOf i).toNat)
              case atStart => exact ⟨0, by omega, rfl, fun j hj => by omega, hb1, hb2⟩
              case round =>
                obtain ⟨k3, hk3, rfl, hall3, hbx, hbz⟩ := hrel
                clear hb1 hb2
                by_cases hlt3 : k3 < en
                · obtain ⟨eb, eoff, rfl, hebl, hecell⟩ := hE (by omega)
                  obtain ⟨x0, x1, x2, x3, x4, x5⟩ := (hecell k3 hlt3).1.keep fun i => hbz.cell (p := ⟨eb, i, none⟩) (Nat.lt_of_lt_of_eq hebl hZ)
                  have hi := (hecell k3 hlt3).2.below (hZ ▸ hbz)
                  have hc := fun w' (b' : Below wr.heap.size wr w') => rfits_any (chk k3) 8 w' (by omega) (hi.below b')
                  have h2k := hT2 k3 hlt3
                  unfold Ex.val at hc
                  clear hecell hi hE hT2
                  cases hf : fitsE 8 (treeE (chk k3)) with
                  | false =>
                    rw [hf] at hc
                    have hRT := h2k hf
                    clear hT1 hall2
                    go_wp2_with fail
                    have c0 := below_box wr (.cells #[.int .i64 (chk k3).op, .int .i64 (chk k3).col, .int .i64 (chk k3).v.kind, .int .i64 (chk k3).v.num, .string ⟨(chk k3).v.text.toArray⟩, .slice (chk k3).A (chk k3).n (chk k3).cap] 45)
                    refine (hc _ c0).mono ?_
                    rintro e w8 ⟨rfl, b8⟩
                    have b9 := below_in hbx (below_in c0 b8)
                    go_wp2_with fail
                    go_ret
                    exact ⟨by rw [hsk hRT]; rfl, b9⟩
                  | true =>
                    rw [hf] at hc
                    go_wp2_with fail
                    have c0 := below_box wr (.cells #[.int .i64 (chk k3).op, .int .i64 (chk k3).col, .int .i64 (chk k3).v.kind, .int .i64 (chk k3).v.num, .string ⟨(chk k3).v.text.toArray⟩, .slice (chk k3).A (chk k3).n (chk k3).cap] 45)
                    refine (hc _ c0).mono ?_
                    rintro e w8 ⟨rfl, b8⟩
                    have b9 := below_in c0 b8
                    clear hc
                    go_wp2_with fail
                    exact ⟨⟨k3 + 1, by omega, by go_num, fun j hj => by
                      by_cases hjk : j = k3
                      · rw [hjk]; exact hf
                      · exact hall3 j (by omega), below_in hbx b9, below_zz hbz b9⟩, by simp [intOf]; omega⟩
                · obtain rfl : en = k3 := by omega
                  have hRT := hT1 h6 h4 hall3
                  go_wp2_with fail
                  exact ⟨⟨k + 1, by omega, by go_num, hall2 hRT, hbx⟩, by simp [intOf]; omega⟩
            · have hRT := hT0 (.inr (by omega))
              clear hT0 hT1 hT2 hE hT htrue hsome hall2
              go_wp2_with fail
              go_ret
              exact ⟨by first | rfl | (rw [hsk hRT]; rfl), hb1⟩
          · have hRT := hT0 (.inl (by omega))
            clear hT0 hT1 hT2 hE hT htrue hsome hall2
            go_wp2_with fail
            go_ret
            exact ⟨by first | rfl | (rw [hsk hRT]; rfl), hb1⟩
        · obtain rfl : tn = k := by omega
          have hr := htrue h12 h64 hall
          go_wp2_with fail
          go_ret
          exact ⟨by rw [hr]; rfl, hbr⟩
    · rw [hbad (.inr (by omega))]
      clear htrue hsome
      go_enter Try.func10, Try.ntmps10
      go_wp2_with fail
      go_ret
      exact ⟨rfl, b0⟩
  · rw [hbad (.inl (by omega))]
    clear htrue hsome
    go_enter Try.func10, Try.ntmps10
    go_wp2_with fail
    go_ret
    exact ⟨rfl, b0⟩

structure simS (a b : Sc) : Prop where
  ver : a.ver = b.ver
  tn : a.tn = b.tn
  tabs : ∀ j, j < a.tn → simT (a.tab j) (b.tab j)
  gn : a.gn = b.gn
  grants : a.grants = b.grants

set_option maxRecDepth 100000 in
set_option maxHeartbeats 3200000 in
theorem sameS_any (a b : Sc) (w : World) (ha : InS w a) (hb : InS w b) (hs : simS a b) : Calls Try.prog 11 #[a.val, b.val] w fun e w' => e = .returned (.bool true) ∧ Below w.heap.size w w' := by
  obtain ⟨ver, tA, tn, tcap, tab, gA, gn, gcap, gs⟩ := a
  obtain ⟨ver', tA', tn', tcap', tab', gA', gn', gcap', gs'⟩ := b
  obtain ⟨h1, h2, hsim, h4, h5⟩ := hs
  simp only at h1 h2 h4 h5 hsim
  subst h1 h2 h4 h5
  have hrt := ha.tabs
  have hrt' := hb.tabs
  have hrg := ha.grants
  have hrg' := hb.grants
  have hn := ha.tmax
  have hgn := ha.gmax
  unfold maxLen at hn hgn
  simp only at hrt hrt' hrg hrg' hn hgn
  clear ha hb
  simp only [Sc.val]
  obtain ⟨W, hW⟩ : ∃ W, (w.alloc (.cells #[.int .i64 ver, .slice tA tn tcap, .slice gA gn gcap] 25)).alloc (.cells #[.int .i64 ver, .slice tA' tn tcap', .slice gA' gn gcap'] 25) = W := ⟨_, rfl⟩
  have b3 : Below w.heap.size w W := by
    rw [← hW]
    have b0 := below_box w (.cells #[.int .i64 ver, .slice tA tn tcap, .slice gA gn gcap] 25)
    exact b0.alloc b0.size _
  have aX : At W w.heap.size 25 #[.int .i64 ver, .slice tA tn tcap, .slice gA gn gcap] := by
    rw [← hW]; exact (At.fresh _ _ _).alloc _
  have aY : At W (w.heap.size + 1) 25 #[.int .i64 ver, .slice tA' tn tcap', .slice gA' gn gcap'] := by
    rw [← hW]
    have := At.fresh (w.alloc (.cells #[.int .i64 ver, .slice tA tn tcap, .slice gA gn gcap] 25)) 25 #[.int .i64 ver, .slice tA' tn tcap', .slice gA' gn gcap']
    simp only [World.size_alloc] at this
    exact this
  have hWc := Lib.hid hW
  clear hW
  go_enter Try.func11, Try.ntmps11
  go_wp2_with fail
  rw [hWc.out]
  clear hWc
  go_loopw [33] (fun i wr => ∃ k : Nat, k ≤ tn ∧ i = .int .i64 k ∧ Below W.heap.size W wr) (fun i _ => tn - (intOf i).toNat)
  case atStart => exact ⟨0, by omega, rfl, Below.refl _ _⟩
  case round =>
    obtain ⟨k, hk, rfl, hbr⟩ := hrel
    have hbw := below_in b3 hbr
    by_cases hlt : k < tn
    · obtain ⟨b, off, rfl, hbl, hcell⟩ := hrt (by omega)
      obtain ⟨b', off', rfl, hbl', hcell'⟩ := hrt' (by omega)
      obtain ⟨x0, x1, x2, x3⟩ := (hcell k hlt).1.keep fun i => hbw.cell (p := ⟨b, i, none⟩) hbl
      obtain ⟨y0, y1, y2, y3⟩ := (hcell' k hlt).1.keep fun i => hbw.cell (p := ⟨b', i, none⟩) hbl'
      have hi := (hcell k hlt).2.below hbw
      have hi' := (hcell' k hlt).2.below hbw
      have hc := fun w' (b' : Below wr.heap.size wr w') => sameT_any (tab k) (tab' k) w' (hi.below b') (hi'.below b') (hsim k hlt)
      have a5 : wr.cell? ⟨w.heap.size, 1, none⟩ = some (.slice (some ⟨b, off, none⟩) tn tcap) := (aX.below hbr aX.lt).cell 1
      have a5' : wr.cell? ⟨w.heap.size + 1, 1, none⟩ = some (.slice (some ⟨b', off', none⟩) tn tcap') := (aY.below hbr aY.lt).cell 1
      have hki : (k : Int) < (tn : Int) := by omega
      unfold Tb.val at hc
      clear hcell hcell' hi hi' hsim hrg hrg'
      go_wp2_with fail
      go_still_tail 10, (by kernel_rfl)
      change wpList _ _ _ _ _ wr.drew
      have hd : Below wr.heap.size wr wr.drew := (Below.refl _ _).drew
      go_wp2_with fail
      refine (hc _ hd).mono ?_
      rintro e w2 ⟨rfl, b2⟩
      go_wp2_with fail
      exact ⟨⟨k + 1, by omega, by go_num, below_in hbr (below_in hd b2)⟩, by simp [intOf]; omega⟩
    · have aX2 := aX.below hbr aX.lt
      have aY2 := aY.below hbr aY.lt
      have a3 : wr.cell? ⟨w.heap.size, 2, none⟩ = some (.slice gA gn gcap) := aX2.cell 2
      clear hrt hrt' hsim
      go_wp2_with fail
      go_loopw [52] (fun i wx => ∃ k : Nat, k ≤ gn ∧ i = .int .i64 k ∧ Below wr.heap.size wr wx) (fun i _ => gn - (intOf i).toNat)
      case atStart => exact ⟨0, by omega, rfl, Below.refl _ _⟩
      case round =>
        obtain ⟨k2, hk2, rfl, hbx⟩ := hrel
        have hbw2 := below_in hbw hbx
        by_cases hlt2 : k2 < gn
        · obtain ⟨b, off, rfl, hbl, hcell⟩ := hrg.2.2 (by omega)
          obtain ⟨b', off', rfl, hbl', hcell'⟩ := hrg'.2.2 (by omega)
          have hx := (hcell k2 hlt2).keep fun i => hbw2.cell (p := ⟨b, i, none⟩) hbl
          have hy := (hcell' k2 hlt2).keep fun i => hbw2.cell (p := ⟨b', i, none⟩) hbl'
          generalize gs.getD k2 default = c at *
          obtain ⟨x0, x1, x2⟩ := hx
          obtain ⟨y0, y1, y2⟩ := hy
          have a5 : wr.cell? ⟨w.heap.size, 2, none⟩ = some (.slice (some ⟨b, off, none⟩) gn gcap) := (aX2.below hbx aX2.lt).cell 2
          have a5' : wr.cell? ⟨w.heap.size + 1, 2, none⟩ = some (.slice (some ⟨b', off', none⟩) gn gcap') := (aY2.below hbx aY2.lt).cell 2
          have hki : (k2 : Int) < (gn : Int) := by omega
          clear hcell hcell'
          go_wp2_with fail
          go_quiet (fail)
          go_wp2_with fail
          exact ⟨⟨k2 + 1, by omega, by go_num, below_nq hbx _⟩, by simp [intOf]; omega⟩
        · go_wp2_with fail
          go_ret
          exact ⟨rfl, hbw2⟩
theorem simS_zero : simS noS noS := ⟨rfl, rfl, fun j hj => absurd hj (Nat.not_lt_zero j), rfl, rfl⟩
theorem sameZero_any (w : World) : Calls Try.prog 11 #[.agg #[.int .i64 0, .slice none 0 0, .slice none 0 0], .agg #[.int .i64 0, .slice none 0 0, .slice none 0 0]] w fun e w' => e = .returned (.bool true) ∧ Below w.heap.size w w' :=
  sameS_any noS noS w (in_noS w) (in_noS w) simS_zero
end Go.Proofs.Ytlkeagfmlcbogaa
