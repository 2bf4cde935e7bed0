/- The walk of the law ExprEdges. -/
import Derived.Test.YtfgmhilmjkpeeaaExL
import Derived.Deep.DeepCutAuto
namespace Go.Proofs.Ytfgmhilmjkpeeaa
open Go.RowKit

theorem cmp3 (a b : Nat) : (a < b ∧ cmpI a b = -1 ∧ cmpI b a = 1) ∨ (a = b ∧ cmpI a b = 0 ∧ cmpI b a = 0) ∨ (b < a ∧ cmpI a b = 1 ∧ cmpI b a = -1) := by
  unfold cmpI
  by_cases h : a < b
  · left; rw [if_pos h, if_neg (by omega), if_pos h]; exact ⟨h, rfl, rfl⟩
  · by_cases h2 : b < a
    · right; right; rw [if_neg h, if_pos h2, if_pos h2]; exact ⟨h2, rfl, rfl⟩
    · right; left; rw [if_neg h, if_neg h2, if_neg h2, if_neg h]; exact ⟨by omega, rfl, rfl⟩
theorem keyI_canon (a : Int) : keyI (canonI (wordOf a)) = keyI a := by
  unfold keyI
  rw [wordOf_canonI (wordOf_lt a), canonW_idem]
/-- What the four operations give. -/
theorem edges_facts (a b : Int) : ∃ l s m f c : Int, pairV 3 ⟨2, canonI (wordOf a), []⟩ ⟨2, canonI (wordOf b), []⟩ = some ⟨1, l, []⟩ ∧ pairV 4 ⟨2, canonI (wordOf a), []⟩ ⟨2, canonI (wordOf b), []⟩ = some ⟨1, s, []⟩ ∧
    pairV 3 ⟨2, canonI (wordOf b), []⟩ ⟨2, canonI (wordOf a), []⟩ = some ⟨1, m, []⟩ ∧ pairV 9 ⟨2, canonI (wordOf a), []⟩ ⟨2, canonI (wordOf b), []⟩ = some ⟨2, f, []⟩ ∧ canonI (wordOf f) = f ∧ I64 f ∧ cmpI (keyI a) (keyI b) = c ∧
    ((l = 1 ∧ s = 0 ∧ m = 0 ∧ c = -1) ∨ (l = 0 ∧ s = 1 ∧ m = 0 ∧ c = 0) ∨ (l = 0 ∧ s = 0 ∧ m = 1 ∧ c = 1)) := by
  have h3 : ∀ x y : Int, pairV 3 ⟨2, canonI (wordOf x), []⟩ ⟨2, canonI (wordOf y), []⟩ = some (truthV (decide (cmpI (keyI x) (keyI y) < 0))) := fun x y => by
    unfold pairV
    simp only [cmpK, keyI_canon]
    rfl
  have h4 : pairV 4 ⟨2, canonI (wordOf a), []⟩ ⟨2, canonI (wordOf b), []⟩ = some (truthV (decide (cmpI (keyI a) (keyI b) = 0))) := by
    unfold pairV
    simp only [cmpK, keyI_canon]
    rfl
  have h9 : pairV 9 ⟨2, canonI (wordOf a), []⟩ ⟨2, canonI (wordOf b), []⟩ = some ⟨2, floatsV 9 (canonI (wordOf a)) (canonI (wordOf b)), []⟩ := rfl
  rw [h3, h3, h4, h9]
  rcases cmp3 (keyI a) (keyI b) with ⟨-, x1, x2⟩ | ⟨-, x1, x2⟩ | ⟨-, x1, x2⟩
  · rw [x1, x2]; exact ⟨1, 0, 0, _, -1, rfl, rfl, rfl, rfl, floats_good _ _ _, floats_i64 _ _ _, rfl, .inl ⟨rfl, rfl, rfl, rfl⟩⟩
  · rw [x1, x2]; exact ⟨0, 1, 0, _, 0, rfl, rfl, rfl, rfl, floats_good _ _ _, floats_i64 _ _ _, rfl, .inr (.inl ⟨rfl, rfl, rfl, rfl⟩)⟩
  · rw [x1, x2]; exact ⟨0, 0, 1, _, 1, rfl, rfl, rfl, rfl, floats_good _ _ _, floats_i64 _ _ _, rfl, .inr (.inr ⟨rfl, rfl, rfl, rfl⟩)⟩

set_option maxRecDepth 100000 in
set_option maxHeartbeats 6400000 in
theorem exprEdges_main (a b : Int) (w : World) (_ha : I64 a) (_hb : I64 b) : Calls Try.prog 5 #[.int .i64 a, .int .i64 b] w fun en w' => en = .returned (.bool true) ∧ Below w.heap.size w w' := by
  obtain ⟨l, s, m, f, c, f1, f2, f3, f4, f5, f6, f7, fc⟩ := edges_facts a b
  have hip : I64 (canonI (wordOf a)) := i64_wrap _
  have hiq : I64 (canonI (wordOf b)) := i64_wrap _
  generalize hp : canonI (wordOf a) = p at *
  generalize hq : canonI (wordOf b) = q at *
  have hop : (Vl.mk 2 p []).Ok := okV_num (by unfold I64; decide) hip
  have hoq : (Vl.mk 2 q []).Ok := okV_num (by unfold I64; decide) hiq
  have hlx := lit_any ⟨2, p, []⟩
  have hly := lit_any ⟨2, q, []⟩
  simp only [Vl.val] at hlx hly
  clear hip hiq
  go_enter Try.func5, Try.ntmps5
  go_wp2_with fail
  refine (alive_any _).mono ?_
  intro en w1 he
  obtain ⟨rfl, hb1⟩ := he
  go_upto_region 3 with fail
  go_cut [5, 6] (fun px py wx => ∃ gx gy, px = .pointer (some ⟨gx, 0, none⟩) ∧ py = .pointer (some ⟨gy, 0, none⟩) ∧ At wx gx 26 #[.int .i64 1, .int .i64 0, .int .i64 2, .int .i64 p, .string ⟨#[]⟩, .slice none 0 0] ∧ At wx gy 26 #[.int .i64 1, .int .i64 0, .int .i64 2, .int .i64 q, .string ⟨#[]⟩, .slice none 0 0] ∧ Below w.heap.size w wx)
  case first =>
    go_wp2_with (first | (go_at_call 13; refine (refOf_any _ _).mono ?_; rintro e w' ⟨rfl, rfl⟩) | (go_at_call 12; refine (refKept_any _ _).mono ?_; rintro e w' ⟨rfl, rfl⟩))
    refine (hlx _).mono ?_
    intro e2 w2 he
    obtain ⟨rfl, b2⟩ := he
    simp only [Ex.val, Ex.op, Ex.col, Ex.v, Ex.A, Ex.n, Ex.cap]
    go_wp2_with (first | (go_at_call 13; refine (refOf_any _ _).mono ?_; rintro e w' ⟨rfl, rfl⟩) | (go_at_call 12; refine (refKept_any _ _).mono ?_; rintro e w' ⟨rfl, rfl⟩))
    refine (hly _).mono ?_
    intro e3 w3 he
    obtain ⟨rfl, b3⟩ := he
    simp only [Ex.val, Ex.op, Ex.col, Ex.v, Ex.A, Ex.n, Ex.cap]
    go_wp2_with fail
    go_meet
    refine ⟨w3.heap.size, w3.heap.size + 1, rfl, rfl, ?_⟩
    have bx := below_box w3 (.cells #[.int .i64 1, .int .i64 0, .int .i64 2, .int .i64 p, .string ⟨#[]⟩, .slice none 0 0] 26)
    have h1 := At.fresh w3 26 #[.int .i64 1, .int .i64 0, .int .i64 2, .int .i64 p, .string ⟨#[]⟩, .slice none 0 0]
    have hs1 : (w3.alloc (.cells #[.int .i64 1, .int .i64 0, .int .i64 2, .int .i64 p, .string ⟨#[]⟩, .slice none 0 0] 26)).heap.size = w3.heap.size + 1 := by simp
    generalize w3.alloc (.cells #[.int .i64 1, .int .i64 0, .int .i64 2, .int .i64 p, .string ⟨#[]⟩, .slice none 0 0] 26) = v1 at *
    rw [← hs1]
    have bz := fun cs => below_box v1 (.cells cs 26)
    exact ⟨h1.below (bz _) h1.lt, At.fresh v1 _ _, below_in hb1 (below_in b2 (below_in b3 (below_in bx (bz _))))⟩
  case rest =>
  obtain ⟨gx, gy, rfl, rfl, hX, hY, hbc⟩ := hcut
  clear hlx hly hb1
  obtain ⟨x0, x1, x2, x3, x4, x5⟩ := hX.six
  obtain ⟨y0, y1, y2, y3, y4, y5⟩ := hY.six
  go_upto_region 4 with fail
  go_cut [7, 8] (fun pv ev wx => ∃ gp, pv = .pointer (some ⟨gp, 0, none⟩) ∧ ev = .int .i64 0 ∧ At wx gp 23 #[.int .i64 1, .int .i64 l, .string ⟨#[]⟩] ∧ Below wc.heap.size wc wx)
  case first =>
    go_wp2_with fail
    have bx := below_box wc (.cells #[.int .i64 1, .int .i64 0, .int .i64 2, .int .i64 p, .string ⟨#[]⟩, .slice none 0 0, .int .i64 1, .int .i64 0, .int .i64 2, .int .i64 q, .string ⟨#[]⟩, .slice none 0 0] 26)
    refine (evalTwo 3 (by omega) ⟨2, p, []⟩ ⟨2, q, []⟩ hop hoq (At.fresh wc 26 #[.int .i64 1, .int .i64 0, .int .i64 2, .int .i64 p, .string ⟨#[]⟩, .slice none 0 0, .int .i64 1, .int .i64 0, .int .i64 2, .int .i64 q, .string ⟨#[]⟩, .slice none 0 0])).mono ?_
    intro en v1 he
    obtain ⟨he, bv⟩ := he
    rw [f1] at he
    obtain rfl := he
    simp only [Vl.val]
    go_wp2_with fail
    go_meet
    exact ⟨_, rfl, rfl, At.fresh v1 _ _, below_in bx (below_in bv (below_box v1 _))⟩
  case rest =>
  obtain ⟨g4, rfl, rfl, hP4, hbn⟩ := hcut
  replace hX := hX.below hbn hX.lt
  replace hY := hY.below hbn hY.lt
  replace hbc := below_in hbc hbn
  clear hbn x0 x1 x2 x3 x4 x5 y0 y1 y2 y3 y4 y5
  obtain ⟨x0, x1, x2, x3, x4, x5⟩ := hX.six
  obtain ⟨y0, y1, y2, y3, y4, y5⟩ := hY.six
  go_upto_region 5 with fail
  go_cut [9, 10] (fun pv ev wx => ∃ gp, pv = .pointer (some ⟨gp, 0, none⟩) ∧ ev = .int .i64 0 ∧ At wx gp 23 #[.int .i64 1, .int .i64 s, .string ⟨#[]⟩] ∧ Below wc.heap.size wc wx)
  case first =>
    go_wp2_with fail
    have bx := below_box wc (.cells #[.int .i64 1, .int .i64 0, .int .i64 2, .int .i64 p, .string ⟨#[]⟩, .slice none 0 0, .int .i64 1, .int .i64 0, .int .i64 2, .int .i64 q, .string ⟨#[]⟩, .slice none 0 0] 26)
    refine (evalTwo 4 (by omega) ⟨2, p, []⟩ ⟨2, q, []⟩ hop hoq (At.fresh wc 26 #[.int .i64 1, .int .i64 0, .int .i64 2, .int .i64 p, .string ⟨#[]⟩, .slice none 0 0, .int .i64 1, .int .i64 0, .int .i64 2, .int .i64 q, .string ⟨#[]⟩, .slice none 0 0])).mono ?_
    intro en v1 he
    obtain ⟨he, bv⟩ := he
    rw [f2] at he
    obtain rfl := he
    simp only [Vl.val]
    go_wp2_with fail
    go_meet
    exact ⟨_, rfl, rfl, At.fresh v1 _ _, below_in bx (below_in bv (below_box v1 _))⟩
  case rest =>
  obtain ⟨g5, rfl, rfl, hP5, hbn⟩ := hcut
  replace hX := hX.below hbn hX.lt
  replace hY := hY.below hbn hY.lt
  replace hP4 := hP4.below hbn hP4.lt
  replace hbc := below_in hbc hbn
  clear hbn x0 x1 x2 x3 x4 x5 y0 y1 y2 y3 y4 y5
  obtain ⟨x0, x1, x2, x3, x4, x5⟩ := hX.six
  obtain ⟨y0, y1, y2, y3, y4, y5⟩ := hY.six
  go_upto_region 6 with fail
  go_cut [11, 12] (fun pv ev wx => ∃ gp, pv = .pointer (some ⟨gp, 0, none⟩) ∧ ev = .int .i64 0 ∧ At wx gp 23 #[.int .i64 1, .int .i64 m, .string ⟨#[]⟩] ∧ Below wc.heap.size wc wx)
  case first =>
    go_wp2_with fail
    have bx := below_box wc (.cells #[.int .i64 1, .int .i64 0, .int .i64 2, .int .i64 q, .string ⟨#[]⟩, .slice none 0 0, .int .i64 1, .int .i64 0, .int .i64 2, .int .i64 p, .string ⟨#[]⟩, .slice none 0 0] 26)
    refine (evalTwo 3 (by omega) ⟨2, q, []⟩ ⟨2, p, []⟩ hoq hop (At.fresh wc 26 #[.int .i64 1, .int .i64 0, .int .i64 2, .int .i64 q, .string ⟨#[]⟩, .slice none 0 0, .int .i64 1, .int .i64 0, .int .i64 2, .int .i64 p, .string ⟨#[]⟩, .slice none 0 0])).mono ?_
    intro en v1 he
    obtain ⟨he, bv⟩ := he
    rw [f3] at he
    obtain rfl := he
    simp only [Vl.val]
    go_wp2_with fail
    go_meet
    exact ⟨_, rfl, rfl, At.fresh v1 _ _, below_in bx (below_in bv (below_box v1 _))⟩
  case rest =>
  obtain ⟨g6, rfl, rfl, hP6, hbn⟩ := hcut
  replace hX := hX.below hbn hX.lt
  replace hY := hY.below hbn hY.lt
  replace hP4 := hP4.below hbn hP4.lt
  replace hP5 := hP5.below hbn hP5.lt
  replace hbc := below_in hbc hbn
  clear hbn x0 x1 x2 x3 x4 x5 y0 y1 y2 y3 y4 y5
  obtain ⟨x0, x1, x2, x3, x4, x5⟩ := hX.six
  obtain ⟨y0, y1, y2, y3, y4, y5⟩ := hY.six
  go_upto_region 7 with fail
  go_cut [13, 14] (fun pv ev wx => ∃ gp, pv = .pointer (some ⟨gp, 0, none⟩) ∧ ev = .int .i64 0 ∧ At wx gp 23 #[.int .i64 2, .int .i64 f, .string ⟨#[]⟩] ∧ Below wc.heap.size wc wx)
  case first =>
    go_wp2_with fail
    have bx := below_box wc (.cells #[.int .i64 1, .int .i64 0, .int .i64 2, .int .i64 p, .string ⟨#[]⟩, .slice none 0 0, .int .i64 1, .int .i64 0, .int .i64 2, .int .i64 q, .string ⟨#[]⟩, .slice none 0 0] 26)
    refine (evalTwo 9 (by omega) ⟨2, p, []⟩ ⟨2, q, []⟩ hop hoq (At.fresh wc 26 #[.int .i64 1, .int .i64 0, .int .i64 2, .int .i64 p, .string ⟨#[]⟩, .slice none 0 0, .int .i64 1, .int .i64 0, .int .i64 2, .int .i64 q, .string ⟨#[]⟩, .slice none 0 0])).mono ?_
    intro en v1 he
    obtain ⟨he, bv⟩ := he
    rw [f4] at he
    obtain rfl := he
    simp only [Vl.val]
    go_wp2_with fail
    go_meet
    exact ⟨_, rfl, rfl, At.fresh v1 _ _, below_in bx (below_in bv (below_box v1 _))⟩
  case rest =>
  obtain ⟨g7, rfl, rfl, hP7, hbn⟩ := hcut
  replace hP4 := hP4.below hbn hP4.lt
  replace hP5 := hP5.below hbn hP5.lt
  replace hP6 := hP6.below hbn hP6.lt
  replace hbc := below_in hbc hbn
  clear hbn x0 x1 x2 x3 x4 x5 y0 y1 y2 y3 y4 y5
  have hgood := rgood_any ⟨2, f, []⟩ (okV_num (by unfold I64; decide) f6)
  have hgt : goodV ⟨2, f, []⟩ = true := by rw [goodV_iff]; exact .inr (.inr (.inl ⟨rfl, rfl, f5⟩))
  rw [hgt] at hgood
  simp only [Vl.val] at hgood
  have hcmp := refCompare_any a b
  rw [f7] at hcmp
  clear f1 f2 f3 f4 f5 f6 f7 hgt hop hoq hp hq
  obtain ⟨q0, q1, q2, -, -, -⟩ := hP4.three
  obtain ⟨s0, s1, s2, -, -, -⟩ := hP5.three
  obtain ⟨t0, t1, t2, -, -, -⟩ := hP6.three
  obtain ⟨v0, v1, v2, -, -, -⟩ := hP7.three
  rcases fc with ⟨rfl, rfl, rfl, rfl⟩ | ⟨rfl, rfl, rfl, rfl⟩ | ⟨rfl, rfl, rfl, rfl⟩
  all_goals
    go_wp2_with fail
    refine (hcmp _).mono ?_
    rintro en w5 ⟨rfl, rfl⟩
    go_wp2_with fail
    refine (hgood _).mono ?_
    intro en w6 he
    obtain ⟨rfl, b6⟩ := he
    have hb6 := below_in hbc b6
    obtain ⟨v0, v1, v2, -, -, -⟩ := (hP7.below b6 hP7.lt).three
    go_wp2_with fail
    go_ret
    exact ⟨rfl, hb6⟩
end Go.Proofs.Ytfgmhilmjkpeeaa
