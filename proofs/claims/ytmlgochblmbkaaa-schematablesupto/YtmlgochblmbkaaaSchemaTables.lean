/- The walk of the law SchemaTables. -/
import Derived.Test.YtmlgochblmbkaaaScX
import Derived.Deep.RegionHeld3
namespace Go.Proofs.Ytmlgochblmbkaaa
open Go.RowKit

/-- 'with(t)': a schema of that table alone. -/
def soloS (t : Tb) (g : Nat) : Sc := ⟨0, some ⟨g, 0, none⟩, 1, 1, fun _ => t, none, 0, 0, []⟩
theorem in_solo {w : World} {t : Tb} {g : Nat} (ht : InT w t) (h : At w g 25 #[.string ⟨t.name.toArray⟩, .int .i64 t.owner, .slice t.cA t.cn t.ccap, .slice t.eA t.en t.ecap]) : InS w (soloS t g) := by
  refine ⟨by show I64 0; unfold I64; decide, by show 1 ≤ maxLen; unfold maxLen; decide, by show 0 ≤ maxLen; unfold maxLen; decide, fun _ => ⟨g, 0, rfl, h.lt, fun j hj => ?_⟩, rfl, (fun c hc => by cases hc), fun h0 => absurd (show 0 < 0 from h0) (by decide)⟩
  obtain rfl : j = 0 := by have : j < 1 := hj; omega
  obtain ⟨c0, c1, c2, c3, -⟩ := h.four
  exact ⟨⟨c0, c1, c2, c3⟩, ht⟩
set_option maxHeartbeats 1600000 in
theorem with_any (t : Tb) (w : World) : Calls Try.prog 9 #[t.val] w fun e w' => ∃ g, e = .returned (soloS t g).val ∧ At w' g 25 #[.string ⟨t.name.toArray⟩, .int .i64 t.owner, .slice t.cA t.cn t.ccap, .slice t.eA t.en t.ecap] ∧ Below w.heap.size w w' := by
  unfold Tb.val
  go_enter Try.func9, Try.ntmps9
  go_wp2_with fail
  have b1 := below_box w (.cells #[.string ⟨t.name.toArray⟩, .int .i64 t.owner, .slice t.cA t.cn t.ccap, .slice t.eA t.en t.ecap] 25)
  have b2 := b1.alloc b1.size (.cells #[.int .i64 0, .slice (some ⟨w.heap.size + 1 + 1, 0, none⟩) 1 1, .slice none 0 0] 29)
  have b3 := b2.alloc b2.size (.cells #[.string ⟨t.name.toArray⟩, .int .i64 t.owner, .slice t.cA t.cn t.ccap, .slice t.eA t.en t.ecap] 25)
  have aR := At.fresh ((w.alloc (.cells #[.string ⟨t.name.toArray⟩, .int .i64 t.owner, .slice t.cA t.cn t.ccap, .slice t.eA t.en t.ecap] 25)).alloc (.cells #[.int .i64 0, .slice (some ⟨w.heap.size + 1 + 1, 0, none⟩) 1 1, .slice none 0 0] 29)) 25 #[.string ⟨t.name.toArray⟩, .int .i64 t.owner, .slice t.cA t.cn t.ccap, .slice t.eA t.en t.ecap]
  simp only [World.size_alloc] at aR
  refine bodyPost_ret (v := (soloS t (w.heap.size + 1 + 1)).val) (by simp [results, Try.results9, go_sem, Sc.val, soloS]) rfl ⟨w.heap.size + 1 + 1, rfl, ?_, ?_⟩
  · exact aR
  · exact b3

set_option maxRecDepth 100000 in
set_option maxHeartbeats 12800000 in
theorem schemaTables_main (t : Tb) (s : Sc) (name : List UInt8) (w : World) (ht : InT w t) (hwt : wtT t ≤ 1048576) (hs : InS w s) (hws : wtS s ≤ 1048576) (hl : name.length ≤ maxLen) (_hl2 : name.length ≤ 1048576) :
    Calls Try.prog 3 #[t.val, s.val, .string ⟨name.toArray⟩] w fun e w' => e = .returned (.bool true) ∧ Below w.heap.size w w' := by
  obtain ⟨W, hW⟩ : ∃ W, (w.alloc (.cells #[.string ⟨t.name.toArray⟩, .int .i64 t.owner, .slice t.cA t.cn t.ccap, .slice t.eA t.en t.ecap] 25)).alloc
    (.cells #[.int .i64 s.ver, .slice s.tA s.tn s.tcap, .slice s.gA s.gn s.gcap] 29) = W := ⟨_, rfl⟩
  have b3 : Below w.heap.size w W := by
    rw [← hW]
    have b0 := below_box w (.cells #[.string ⟨t.name.toArray⟩, .int .i64 t.owner, .slice t.cA t.cn t.ccap, .slice t.eA t.en t.ecap] 25)
    exact b0.alloc b0.size _
  have aT : At W w.heap.size 25 #[.string ⟨t.name.toArray⟩, .int .i64 t.owner, .slice t.cA t.cn t.ccap, .slice t.eA t.en t.ecap] := by
    rw [← hW]
    exact (At.fresh _ _ _).alloc _
  have aS : At W (w.heap.size + 1) 29 #[.int .i64 s.ver, .slice s.tA s.tn s.tcap, .slice s.gA s.gn s.gcap] := by
    rw [← hW]
    have := At.fresh (w.alloc (.cells #[.string ⟨t.name.toArray⟩, .int .i64 t.owner, .slice t.cA t.cn t.ccap, .slice t.eA t.en t.ecap] 25)) 29 #[.int .i64 s.ver, .slice s.tA s.tn s.tcap, .slice s.gA s.gn s.gcap]
    simp only [World.size_alloc] at this
    exact this
  have hWc := Lib.hid hW
  clear hW
  have hG := fun w1 (b1 : Below w.heap.size w w1) => sgreat_any s w1 (hs.below b1)
  have hG2 := fun g w1 (b1 : Below w.heap.size w w1) h => sgreat_any (soloS t g) w1 (in_solo (ht.below b1) h)
  have hWi := with_any t
  have hFd := fun w1 (b1 : Below w.heap.size w w1) => find_any s name w1 (hs.below b1) hws
  have hRf := fun w1 (b1 : Below w.heap.size w w1) => refFind_any s name w1 (hs.below b1)
  have hPl := fun w1 (b1 : Below w.heap.size w w1) => Place_any t name w1 (ht.cols.below b1) ht.cmax
  have hRp := fun w1 (b1 : Below w.heap.size w w1) => refPlace_any t name w1 (ht.cols.below b1) ht.cmax
  have hGd := fun w1 (b1 : Below w.heap.size w w1) => tgood_any t s w1 (ht.below b1) (hs.below b1)
  have hRg := fun w1 (b1 : Below w.heap.size w w1) => rgoodT_any t s w1 (ht.below b1) (hs.below b1) hwt
  have hN := name_any name hl
  have hRn := refName_any name hl
  have hin : ∀ i, i < s.tn → InT w (s.tab i) := fun i hi => by
    obtain ⟨b, off, e1, e2, e3⟩ := hs.tabs (by omega)
    exact (e3 i hi).2
  have hST := fun i o w1 (b1 : Below w.heap.size w w1) (hi : i < s.tn) (ho : InT w1 o) (h : simT o (s.tab i)) => sameT_any o (s.tab i) w1 ho ((hin i hi).below b1) h
  have hT := hs.tabs
  have htm := hs.tmax
  unfold maxLen at htm
  generalize firstI (fun j => (t.cols.getD j default).name) name t.cn = pf at *
  have hfc := firstI_cases (fun j => (s.tab j).name) name s.tn
  generalize firstI (fun j => (s.tab j).name) name s.tn = f at *
  generalize goodE t s = gE at *
  generalize nameN name = nb at *
  clear ht hs hwt hws hl hin
  go_enter Try.func3, Try.ntmps3
  unfold Tb.val Sc.val at *
  go_wp2_with fail
  rw [hWc.out]
  clear hWc
  refine (alive_any _).mono ?_
  rintro e w1 ⟨rfl, b1⟩
  have hb1 := below_in b3 b1
  have aT1 := aT.below b1 aT.lt
  have aS1 := aS.below b1 aS.lt
  clear aT aS b1 b3
  obtain ⟨s0, s1, s2, -⟩ := aS1.three
  go_wp2_with fail
  refine (hG _ hb1).mono ?_
  rintro e w2 ⟨⟨y, rfl⟩, b2⟩
  have hb2 := below_in hb1 b2
  have aT2 := aT1.below b2 aT1.lt
  have aS2 := aS1.below b2 aS1.lt
  clear aT1 aS1 b2 hb1 s0 s1 s2 hG
  obtain ⟨t0, t1, t2, t3, -⟩ := aT2.four
  cases y with
  | true =>
    go_wp2_with fail
    go_ret
    exact ⟨rfl, hb2⟩
  | false =>
  go_wp2_with fail
  refine (hWi _).mono ?_
  rintro e w3 ⟨g, rfl, hg, b3⟩
  have hb3 := below_in hb2 b3
  have aT3 := aT2.below b3 aT2.lt
  have aS3 := aS2.below b3 aS2.lt
  have hG3 := hG2 g w3 hb3 hg
  clear aT2 aS2 b3 hb2 t0 t1 t2 t3 hWi hG2
  go_wp2_with fail
  refine hG3.mono ?_
  rintro e w4 ⟨⟨y, rfl⟩, b4⟩
  have hb4 := below_in hb3 b4
  have aT4 := aT3.below b4 aT3.lt
  have aS4 := aS3.below b4 aS3.lt
  clear aT3 aS3 b4 hb3 hG3 hg
  obtain ⟨s0, s1, s2, -⟩ := aS4.three
  cases y with
  | true =>
    go_wp2_with fail
    go_ret
    exact ⟨rfl, hb4⟩
  | false =>
  go_wp2_with fail
  · go_ret
    exact ⟨rfl, hb4⟩
  refine (hFd _ hb4).mono ?_
  rintro e w5 ⟨o, rfl, hof, b5⟩
  have hb5 := below_in hb4 b5
  have aT5 := aT4.below b5 aT4.lt
  have aS5 := aS4.below b5 aS4.lt
  clear aT4 aS4 b5 hb4 hFd s0 s1 s2
  obtain ⟨s0, s1, s2, -⟩ := aS5.three
  have m1 := Nat.ne_of_lt aS5.lt
  have m2 := aS5.lt
  have n1 := Nat.ne_of_lt aT5.lt
  have n2 := aT5.lt
  have hwl := hb5.size
  have aO := At.fresh w5 25 #[.string ⟨o.name.toArray⟩, .int .i64 o.owner, .slice o.cA o.cn o.ccap, .slice o.eA o.en o.ecap]
  have aT6 := aT5.alloc (.cells #[.string ⟨o.name.toArray⟩, .int .i64 o.owner, .slice o.cA o.cn o.ccap, .slice o.eA o.en o.ecap] 25)
  have aS6 := aS5.alloc (.cells #[.string ⟨o.name.toArray⟩, .int .i64 o.owner, .slice o.cA o.cn o.ccap, .slice o.eA o.en o.ecap] 25)
  have hb6 := hb5.alloc hb5.size (.cells #[.string ⟨o.name.toArray⟩, .int .i64 o.owner, .slice o.cA o.cn o.ccap, .slice o.eA o.en o.ecap] 25)
  have hbo := below_box w5 (.cells #[.string ⟨o.name.toArray⟩, .int .i64 o.owner, .slice o.cA o.cn o.ccap, .slice o.eA o.en o.ecap] 25)
  have hRf6 := hRf _ hb6
  clear aT5 aS5 hRf
  generalize hdf : decide (0 ≤ f) = df at *
  go_wp2_with fail
  refine hRf6.mono ?_
  rintro e w7 ⟨rfl, b7⟩
  have hb7 := below_in hb6 b7
  have hb57 := below_in hbo b7
  have aT7 := aT6.below b7 aT6.lt
  have aS7 := aS6.below b7 aS6.lt
  have aO7 := aO.below b7 aO.lt
  clear aT6 aS6 aO b7 hb6 hRf6 s0 s1 s2 m1 m2 n1 n2 hbo
  have last : ∀ w8, Below w7.heap.size w7 w8 → Below w.heap.size w w8 := fun w8 b8 => below_in hb7 b8
  have hfin : ∀ w8, Below w7.heap.size w7 w8 → At w8 w.heap.size 25 #[.string ⟨t.name.toArray⟩, .int .i64 t.owner, .slice t.cA t.cn t.ccap, .slice t.eA t.en t.ecap] ∧ At w8 (w.heap.size + 1) 29 #[.int .i64 s.ver, .slice s.tA s.tn s.tcap, .slice s.gA s.gn s.gcap] :=
    fun w8 b8 => ⟨aT7.below b8 aT7.lt, aS7.below b8 aS7.lt⟩
  obtain ⟨s0, s1, s2, -⟩ := aS7.three
  obtain ⟨o0, o1, o2, o3, -⟩ := aO7.four
  go_wp2_with fail
  go_cut [49] (fun v wx => v = .bool false ∧ Below w7.heap.size w7 wx)
  case first =>
    rcases hfc with hf | ⟨i, hf, hi, -⟩
    · have hd : df = false := by rw [← hdf, hf]; decide
      have hd2 : decide (0 ≤ f) = false := by rw [hf]; decide
      subst hd
      clear hf hdf
      go_quiet (fail)
      go_wp2_with fail
      go_meet
      case rel => exact ⟨rfl, below_nq (Below.refl _ _) _⟩
    · have hd : df = true := by rw [← hdf, hf]; simp
      have hd2 : decide (0 ≤ f) = true := by rw [hf]; simp
      obtain ⟨hio, hino, hsim⟩ := hof i hf
      subst hd
      subst hf
      obtain ⟨b, off, htA, hlb, hcell⟩ := hT (by omega)
      obtain ⟨y0, y1, y2, y3⟩ := (hcell i hi).1.keep fun j => hb7.cell (p := ⟨b, j, none⟩) hlb
      have hii : (i : Int) < (s.tn : Int) := by omega
      have hS := fun w8 (b8 : Below w7.heap.size w7 w8) => hST i o w8 (last w8 b8) hi (hino.below (below_in hb57 b8)) hsim
      rw [htA] at s1
      clear hcell hdf hof htA
      go_still_tail 13, (by kernel_rfl)
      change wpList _ _ _ _ _ w7.drew
      have hd7 : Below w7.heap.size w7 w7.drew := (Below.refl _ _).drew
      go_wp2_with fail
      refine (hS _ hd7).mono ?_
      rintro e w8 ⟨rfl, b8⟩
      go_wp2_with fail
      go_meet
      case rel => exact ⟨rfl, below_in hd7 b8⟩
  case rest =>
  obtain ⟨rfl, hbc⟩ := hcut
  obtain ⟨aTc, aSc⟩ := hfin _ hbc
  have hbwc := last _ hbc
  clear s0 s1 s2 o0 o1 o2 o3 aT7 aS7 aO7 hfin last hof hST hfc hT hb7 hb57 hbc hb5 hwl
  go_wp2_with fail
  have hd : Below wc.heap.size wc wc.drew := (Below.refl _ _).drew
  have keep : ∀ w', Below wc.heap.size wc w' → (w'.cell? ⟨w.heap.size, 0, none⟩ = some (.string ⟨t.name.toArray⟩) ∧ w'.cell? ⟨w.heap.size, 1, none⟩ = some (.int .i64 t.owner) ∧ w'.cell? ⟨w.heap.size, 2, none⟩ = some (.slice t.cA t.cn t.ccap) ∧ w'.cell? ⟨w.heap.size, 3, none⟩ = some (.slice t.eA t.en t.ecap) ∧
    w'.cell? ⟨w.heap.size + 1, 0, none⟩ = some (.int .i64 s.ver) ∧ w'.cell? ⟨w.heap.size + 1, 1, none⟩ = some (.slice s.tA s.tn s.tcap) ∧ w'.cell? ⟨w.heap.size + 1, 2, none⟩ = some (.slice s.gA s.gn s.gcap)) := fun w' hb => by
    obtain ⟨a0, a1, a2, a3, -⟩ := (aTc.below hb aTc.lt).four
    obtain ⟨b0, b1, b2, -⟩ := (aSc.below hb aSc.lt).three
    exact ⟨a0, a1, a2, a3, b0, b1, b2⟩
  have S0 := keep _ hd
  have hbd := below_in hbwc hd
  clear aTc aSc
  go_region_held3 (fun w' => w'.cell? ⟨w.heap.size, 0, none⟩ = some (.string ⟨t.name.toArray⟩) ∧ w'.cell? ⟨w.heap.size, 1, none⟩ = some (.int .i64 t.owner) ∧ w'.cell? ⟨w.heap.size, 2, none⟩ = some (.slice t.cA t.cn t.ccap) ∧ w'.cell? ⟨w.heap.size, 3, none⟩ = some (.slice t.eA t.en t.ecap) ∧
    w'.cell? ⟨w.heap.size + 1, 0, none⟩ = some (.int .i64 s.ver) ∧ w'.cell? ⟨w.heap.size + 1, 1, none⟩ = some (.slice s.tA s.tn s.tcap) ∧ w'.cell? ⟨w.heap.size + 1, 2, none⟩ = some (.slice s.gA s.gn s.gcap))
    (first | exact S0 | exact S1 | exact S2 | exact S3 | exact S4)
    (first
      | (go_at_call 13; refine (hN _).mono ?_; rintro e w' ⟨rfl, rfl⟩)
      | (go_at_call 14; refine (hRn _).mono ?_; rintro e w' ⟨rfl, rfl⟩)
      | (go_at_call 18; refine (hRg _ h10).mono ?_; rintro e w11 ⟨rfl, b11⟩; have h11 := below_in h10 b11; have q11 := below_in q10 b11; have S4 := keep _ q11)
      | (go_at_call 17; refine (hGd _ h9).mono ?_; rintro e w10 ⟨rfl, b10⟩; have h10 := below_in h9 b10; have q10 := below_in q9 b10; have S3 := keep _ q10)
      | (go_at_call 16; refine (hRp _ h8).mono ?_; rintro e w9 ⟨rfl, b9⟩; have h9 := below_in h8 b9; have q9 := below_in q8 b9; have S2 := keep _ q9)
      | (go_at_call 15; refine (hPl _ hbd).mono ?_; rintro e w8 ⟨rfl, b8⟩; have h8 := below_in hbd b8; have q8 := below_in hd b8; have S1 := keep _ q8))
  go_wp2_with fail
  go_ret
  exact ⟨rfl, h11⟩
end Go.Proofs.Ytmlgochblmbkaaa
