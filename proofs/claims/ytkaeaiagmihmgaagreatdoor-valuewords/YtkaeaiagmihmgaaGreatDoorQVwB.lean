/- The walk of value.Word: it returns the good value whose word the text is, or ErrForm. -/
import Derived.Test.YtkaeaiagmihmgaaGreatDoorQVwA
namespace Go.Proofs.YtkaeaiagmihmgaaGreatDoor
open Go.RowKit Go.Sort

theorem list_data (l : List UInt8) : (⟨l.toArray⟩ : ByteArray).data.toList = l := by simp
theorem list_size (l : List UInt8) : (⟨l.toArray⟩ : ByteArray).size = l.length := by simp [ByteArray.size]
theorem i64_wrap (x : Int) : I64 (IntKind.i64.wrap x) := by unfold I64; rw [IntKind.wrap_i64]; omega
/-- A value and a code. -/
def pairW (v : Vl) (b : Int) : Value := .tuple #[.agg #[.int .i64 v.kind, .int .i64 v.num, .string ⟨v.text.toArray⟩], .int .i64 b]

/-- A number's word: no, or the number whose numeral it is. -/
def NumR (s : List UInt8) (x : Ending) : Prop := (x = .returned (pairW ⟨0, 0, []⟩ 4) ∧ ∀ n, I64 n → s ≠ Lib.itoa n) ∨ ∃ n, I64 n ∧ s = Lib.itoa n ∧ x = .returned (pairW ⟨1, n, []⟩ 0)
/-- A float's word. -/
def FltR (s : List UInt8) (x : Ending) : Prop := x = .returned (pairW ⟨0, 0, []⟩ 4) ∨ ∃ c : Nat, canonW c = c ∧ c < 18446744073709551616 ∧ TextOf c s ∧ x = .returned (pairW ⟨2, canonI c, []⟩ 0)

section
variable (s : List UInt8) (hs : s.length ≤ 201) (w : World) (hW : WordsM w)
include hs hW
set_option maxRecDepth 100000 in
set_option maxHeartbeats 1600000 in
theorem numberWord_any : Calls Tryz.prog 22 #[.string ⟨s.toArray⟩] w fun x w' => NumR s x ∧ Below w.heap.size w w' := by
  have hsz : (⟨s.toArray⟩ : ByteArray).size = s.length := list_size s
  have hdt : (⟨s.toArray⟩ : ByteArray).data.toList = s := list_data s
  have hbox := below_box w (.cells #[.int .i64 0, .int .i64 0, .string ⟨#[]⟩] 23)
  have hWz := hW.below hbox
  obtain ⟨_, _, _, _, _, _, hM⟩ := hWz.tx
  obtain ⟨⟨es, es1, es2⟩, er, er1, er2⟩ := hM.errs
  clear hM
  cases hA : Lib.atoiAll s with
  | ok n =>
    obtain ⟨n0, n1⟩ := Lib.atoiAll_bounds hA
    have hn : I64 n := by unfold I64; omega
    have hC := Tryz.strconv_Atoi_ok ⟨s.toArray⟩ (by omega) n (by rw [hdt]; exact hA) (w.alloc (.cells #[.int .i64 0, .int .i64 0, .string ⟨#[]⟩] 23))
    clear es1 er1 hbox hsz hdt
    go_enter Tryz.func22, Tryz.ntmps22
    go_wp2_with fail
    refine hC.mono ?_
    rintro e w1 ⟨rfl, hw1⟩
    have b1 : Below (w.alloc (.cells #[.int .i64 0, .int .i64 0, .string ⟨#[]⟩] 23)).heap.size (w.alloc (.cells #[.int .i64 0, .int .i64 0, .string ⟨#[]⟩] 23)) w1 := by
      rcases hw1 with h | ⟨t, h⟩
      · rw [h]; exact Below.refl _ _
      · rw [h]; exact Lib.bytesWorld_below _ _ _
    obtain ⟨hA1, hb1⟩ := boxed 0 0 [] b1
    have hW1 := hWz.below b1
    clear hw1 b1 hWz hW hC
    go_wp2_with fail
    refine (itoa_any n hn w1 hW1).mono ?_
    rintro e w2 ⟨rfl, b2⟩
    have hA2 := hA1.below b2 hA1.lt
    have hb2 := below_in hb1 b2
    clear hW1 b2 hA1 hb1
    cases hq : (Lib.itoa n == s) with
    | false =>
      have HR : NumR s (.returned (pairW ⟨0, 0, []⟩ 4)) := .inl ⟨rfl, fun m hm he => by
        unfold I64 at hm
        have h1 := atoi_itoa m (by omega) (by omega)
        rw [← he, hA] at h1
        injection h1 with h1
        rw [h1, ← he] at hq
        simp at hq⟩
      have HRR := Lib.hid HR
      clear HR hA
      have c0 : w2.cell? ⟨w.heap.size, 0, none⟩ = some (.int .i64 0) := At.cell hA2 0
      have c1 : w2.cell? ⟨w.heap.size, 1, none⟩ = some (.int .i64 0) := At.cell hA2 1
      have c2 : w2.cell? ⟨w.heap.size, 2, none⟩ = some (.string ⟨#[]⟩) := At.cell hA2 2
      have f0 := At.unfrozen hA2 0
      have f1 := At.unfrozen hA2 1
      have f2 := At.unfrozen hA2 2
      go_wp2_with fail
      refine bodyPost_ret (v := pairW ⟨0, 0, []⟩ 4) (by simp [results, Tryz.results22, go_sem, pairW, c0, c1, c2]) rfl ⟨HRR.out, below_put3 hb2 _ _ _⟩
    | true =>
      have HR : NumR s (.returned (pairW ⟨1, n, []⟩ 0)) := .inr ⟨n, hn, (beq_iff_eq.1 hq).symm, rfl⟩
      have HRR := Lib.hid HR
      clear HR hA
      go_wp2_with fail
      refine (vint_any n _).mono ?_
      rintro e w3 ⟨rfl, b3⟩
      unfold Vl.val
      have hA3 := hA2.below b3 hA2.lt
      have hb3 := below_in hb2 b3
      clear hA2 hb2 b3
      have c0 : w3.cell? ⟨w.heap.size, 0, none⟩ = some (.int .i64 0) := At.cell hA3 0
      have c1 : w3.cell? ⟨w.heap.size, 1, none⟩ = some (.int .i64 0) := At.cell hA3 1
      have c2 : w3.cell? ⟨w.heap.size, 2, none⟩ = some (.string ⟨#[]⟩) := At.cell hA3 2
      have f0 := At.unfrozen hA3 0
      have f1 := At.unfrozen hA3 1
      have f2 := At.unfrozen hA3 2
      go_wp2_with fail
      refine bodyPost_ret (v := pairW ⟨1, n, []⟩ 0) (by simp [results, Tryz.results22, go_sem, pairW, c0, c1, c2]) rfl ⟨HRR.out, below_put3 hb3 _ _ _⟩
  | «syntax» =>
    have hC := Tryz.strconv_Atoi_syntax ⟨s.toArray⟩ (by omega) (by rw [hdt]; exact hA) es (w.alloc (.cells #[.int .i64 0, .int .i64 0, .string ⟨#[]⟩] 23)) es1 es2
    have HR : NumR s (.returned (pairW ⟨0, 0, []⟩ 4)) := .inl ⟨rfl, fun m hm he => by
      unfold I64 at hm
      have h1 := atoi_itoa m (by omega) (by omega)
      rw [← he, hA] at h1
      cases h1⟩
    have HRR := Lib.hid HR
    clear HR hA hbox hsz hdt es1 er1 hWz hW
    go_enter Tryz.func22, Tryz.ntmps22
    go_wp2_with fail
    refine hC.mono ?_
    rintro e w1 ⟨N, rfl, -, -, b1⟩
    obtain ⟨hA1, hb1⟩ := boxed 0 0 [] b1
    clear b1 hC
    have c0 : w1.cell? ⟨w.heap.size, 0, none⟩ = some (.int .i64 0) := At.cell hA1 0
    have c1 : w1.cell? ⟨w.heap.size, 1, none⟩ = some (.int .i64 0) := At.cell hA1 1
    have c2 : w1.cell? ⟨w.heap.size, 2, none⟩ = some (.string ⟨#[]⟩) := At.cell hA1 2
    have f0 := At.unfrozen hA1 0
    have f1 := At.unfrozen hA1 1
    have f2 := At.unfrozen hA1 2
    go_wp2_with fail
    refine bodyPost_ret (v := pairW ⟨0, 0, []⟩ 4) (by simp [results, Tryz.results22, go_sem, pairW, c0, c1, c2]) rfl ⟨HRR.out, below_put3 hb1 _ _ _⟩
  | range =>
    have hC := Tryz.strconv_Atoi_range ⟨s.toArray⟩ (by omega) (by rw [hdt]; exact hA) er (w.alloc (.cells #[.int .i64 0, .int .i64 0, .string ⟨#[]⟩] 23)) er1 er2
    have HR : NumR s (.returned (pairW ⟨0, 0, []⟩ 4)) := .inl ⟨rfl, fun m hm he => by
      unfold I64 at hm
      have h1 := atoi_itoa m (by omega) (by omega)
      rw [← he, hA] at h1
      cases h1⟩
    have HRR := Lib.hid HR
    clear HR hA hbox hsz hdt es1 er1 hWz hW
    go_enter Tryz.func22, Tryz.ntmps22
    go_wp2_with fail
    refine hC.mono ?_
    rintro e w1 ⟨N, rfl, -, -, b1⟩
    obtain ⟨hA1, hb1⟩ := boxed 0 0 [] b1
    clear b1 hC
    have c0 : w1.cell? ⟨w.heap.size, 0, none⟩ = some (.int .i64 0) := At.cell hA1 0
    have c1 : w1.cell? ⟨w.heap.size, 1, none⟩ = some (.int .i64 0) := At.cell hA1 1
    have c2 : w1.cell? ⟨w.heap.size, 2, none⟩ = some (.string ⟨#[]⟩) := At.cell hA1 2
    have f0 := At.unfrozen hA1 0
    have f1 := At.unfrozen hA1 1
    have f2 := At.unfrozen hA1 2
    go_wp2_with fail
    refine bodyPost_ret (v := pairW ⟨0, 0, []⟩ 4) (by simp [results, Tryz.results22, go_sem, pairW, c0, c1, c2]) rfl ⟨HRR.out, below_put3 hb1 _ _ _⟩
end

section
variable (s : List UInt8) (w : World) (hW : WordsM w)
include hW
/-- real.Parse, of any text. -/
theorem parse_all : Calls Tryz.prog 36 #[.string ⟨s.toArray⟩] w fun x w' => FinR s x ∧ Below w.heap.size w w' := by
  obtain ⟨_, gT, oT, B, blk, po, hM⟩ := hW.tx
  by_cases h : s.length ≤ 100
  · exact parse_any hM s h
  · have hl' : decide ((24 : Int) < (s.length : Int)) = true := by simp; omega
    go_enter Tryz.func36, Tryz.ntmps36
    go_wp2_with fail
    go_ret2
    exact ⟨.inl rfl, Below.refl _ _⟩
set_option maxRecDepth 100000 in
set_option maxHeartbeats 1600000 in
theorem floatWord_any : Calls Tryz.prog 21 #[.string ⟨s.toArray⟩] w fun x w' => FltR s x ∧ Below w.heap.size w w' := by
  have hbox := below_box w (.cells #[.int .i64 0, .int .i64 0, .string ⟨#[]⟩] 23)
  have key := parse_all s _ (hW.below hbox)
  clear hbox hW
  go_enter Tryz.func21, Tryz.ntmps21
  go_wp2_with fail
  refine key.mono ?_
  rintro e w1 ⟨hr, b1⟩
  obtain ⟨hA1, hb1⟩ := boxed 0 0 [] b1
  clear b1 key
  rcases hr with rfl | ⟨c, d1, d2, d3, d4, rfl⟩
  · have HRR := Lib.hid (show FltR s (.returned (pairW ⟨0, 0, []⟩ 4)) from .inl rfl)
    have c0 : w1.cell? ⟨w.heap.size, 0, none⟩ = some (.int .i64 0) := At.cell hA1 0
    have c1 : w1.cell? ⟨w.heap.size, 1, none⟩ = some (.int .i64 0) := At.cell hA1 1
    have c2 : w1.cell? ⟨w.heap.size, 2, none⟩ = some (.string ⟨#[]⟩) := At.cell hA1 2
    have f0 := At.unfrozen hA1 0
    have f1 := At.unfrozen hA1 1
    have f2 := At.unfrozen hA1 2
    go_wp2_with fail
    refine bodyPost_ret (v := pairW ⟨0, 0, []⟩ 4) (by simp [results, Tryz.results21, go_sem, pairW, c0, c1, c2]) rfl ⟨HRR.out, below_put3 hb1 _ _ _⟩
  · have HRR := Lib.hid (show FltR s (.returned (pairW ⟨2, canonI c, []⟩ 0)) from .inr ⟨c, d1, d2, d3, rfl⟩)
    clear d1 d2 d3 d4
    have c0 : w1.cell? ⟨w.heap.size, 0, none⟩ = some (.int .i64 0) := At.cell hA1 0
    have c1 : w1.cell? ⟨w.heap.size, 1, none⟩ = some (.int .i64 0) := At.cell hA1 1
    have c2 : w1.cell? ⟨w.heap.size, 2, none⟩ = some (.string ⟨#[]⟩) := At.cell hA1 2
    have f0 := At.unfrozen hA1 0
    have f1 := At.unfrozen hA1 1
    have f2 := At.unfrozen hA1 2
    go_wp2_with fail
    refine bodyPost_ret (v := pairW ⟨2, canonI c, []⟩ 0) (by simp [results, Tryz.results21, go_sem, pairW, c0, c1, c2]) rfl ⟨HRR.out, below_put3 hb1 _ _ _⟩

set_option maxRecDepth 100000 in
set_option maxHeartbeats 1600000 in
/-- The word of a float, read. -/
theorem floatWord_text (c : Nat) (hc : canonW c = c) (hc2 : c < 18446744073709551616) (h : TextOf c s) :
    Calls Tryz.prog 21 #[.string ⟨s.toArray⟩] w fun x w' => x = .returned (pairW ⟨2, canonI c, []⟩ 0) ∧ Below w.heap.size w w' := by
  have hbox := below_box w (.cells #[.int .i64 0, .int .i64 0, .string ⟨#[]⟩] 23)
  obtain ⟨_, gT, oT, B, blk, po, hM⟩ := (hW.below hbox).tx
  have key := parse_text _ gT oT hM.pow hM.ten hM.tab hM.opt c hc hc2 s (textOf_len h) h
  clear hbox hW hM h hc
  go_enter Tryz.func21, Tryz.ntmps21
  go_wp2_with fail
  refine key.mono ?_
  rintro e w1 ⟨rfl, b1⟩
  obtain ⟨hA1, hb1⟩ := boxed 0 0 [] b1
  clear b1 key
  have c0 : w1.cell? ⟨w.heap.size, 0, none⟩ = some (.int .i64 0) := At.cell hA1 0
  have c1 : w1.cell? ⟨w.heap.size, 1, none⟩ = some (.int .i64 0) := At.cell hA1 1
  have c2 : w1.cell? ⟨w.heap.size, 2, none⟩ = some (.string ⟨#[]⟩) := At.cell hA1 2
  have f0 := At.unfrozen hA1 0
  have f1 := At.unfrozen hA1 1
  have f2 := At.unfrozen hA1 2
  go_wp2_with fail
  refine bodyPost_ret (v := pairW ⟨2, canonI c, []⟩ 0) (by simp [results, Tryz.results21, go_sem, pairW, c0, c1, c2]) rfl ⟨rfl, below_put3 hb1 _ _ _⟩
end

set_option maxRecDepth 100000 in
set_option maxHeartbeats 800000 in
theorem textWord_any (t : List UInt8) (hl : t.length ≤ 201) (w : World) :
    Calls Tryz.prog 20 #[.string ⟨t.toArray⟩] w fun x w' => x = .returned (if t.length ≤ 24 then pairW ⟨3, 0, t⟩ 0 else pairW ⟨0, 0, []⟩ 4) ∧ Below w.heap.size w w' := by
  by_cases h : t.length ≤ 24
  · have l : decide ((24 : Int) < (t.length : Int)) = false := by simp; omega
    rw [if_pos h]
    go_enter Tryz.func20, Tryz.ntmps20
    go_wp2_with fail
    refine (vtext_any t _).mono ?_
    rintro e w1 ⟨rfl, b1⟩
    unfold Vl.val
    obtain ⟨hA1, hb1⟩ := boxed 0 0 [] b1
    clear b1
    have c0 : w1.cell? ⟨w.heap.size, 0, none⟩ = some (.int .i64 0) := At.cell hA1 0
    have c1 : w1.cell? ⟨w.heap.size, 1, none⟩ = some (.int .i64 0) := At.cell hA1 1
    have c2 : w1.cell? ⟨w.heap.size, 2, none⟩ = some (.string ⟨#[]⟩) := At.cell hA1 2
    have f0 := At.unfrozen hA1 0
    have f1 := At.unfrozen hA1 1
    have f2 := At.unfrozen hA1 2
    go_wp2_with fail
    refine bodyPost_ret (v := pairW ⟨3, 0, t⟩ 0) (by simp [results, Tryz.results20, go_sem, pairW, c0, c1, c2]) rfl ⟨rfl, below_put3 hb1 _ _ _⟩
  · have l : decide ((24 : Int) < (t.length : Int)) = true := by simp; omega
    rw [if_neg h]
    go_enter Tryz.func20, Tryz.ntmps20
    go_wp2_with fail
    refine bodyPost_ret (v := pairW ⟨0, 0, []⟩ 4) (by simp [results, Tryz.results20, go_sem, pairW]) rfl ⟨rfl, below_box _ _⟩

/-- What a text begins with. -/
theorem prefix_cons (a c : UInt8) (r : List UInt8) : Lib.hasPrefix (a :: r) [c] = (c == a) := by
  unfold Lib.hasPrefix
  simp [List.isPrefixOf]
theorem trim_cons (a : UInt8) (r : List UInt8) : Lib.trimPrefix (a :: r) [a] = r := by
  unfold Lib.trimPrefix
  rw [prefix_cons]
  simp
theorem prefix_nil (c : UInt8) : Lib.hasPrefix [] [c] = false := rfl

section
variable (s : List UInt8) (w : World)
set_option maxRecDepth 100000 in
set_option maxHeartbeats 800000 in
theorem word_null : Calls Tryz.prog 9 #[.string ⟨#[110, 117, 108, 108]⟩] w fun x w' => x = .returned (pairW ⟨0, 0, []⟩ 0) ∧ Below w.heap.size w w' := by
  go_enter Tryz.func9, Tryz.ntmps9
  go_wp2_with fail
  refine bodyPost_ret (v := pairW ⟨0, 0, []⟩ 0) (by simp [results, Tryz.results9, go_sem, pairW]) rfl ⟨rfl, below_box _ _⟩

theorem pre_quote (a : UInt8) (r : List UInt8) : Lib.hasPrefix (⟨(a :: r).toArray⟩ : ByteArray).data.toList (⟨#[39]⟩ : ByteArray).data.toList = (39 == a) := by rw [list_data]; exact prefix_cons a 39 r
theorem pre_f (a : UInt8) (r : List UInt8) : Lib.hasPrefix (⟨(a :: r).toArray⟩ : ByteArray).data.toList (⟨#[102]⟩ : ByteArray).data.toList = (102 == a) := by rw [list_data]; exact prefix_cons a 102 r
theorem trim_q (r : List UInt8) : Lib.trimPrefix (⟨(39 :: r).toArray⟩ : ByteArray).data.toList (⟨#[39]⟩ : ByteArray).data.toList = r := by rw [list_data]; exact trim_cons 39 r
theorem trim_f (r : List UInt8) : Lib.trimPrefix (⟨(102 :: r).toArray⟩ : ByteArray).data.toList (⟨#[102]⟩ : ByteArray).data.toList = r := by rw [list_data]; exact trim_cons 102 r

set_option maxRecDepth 100000 in
set_option maxHeartbeats 1600000 in
theorem word_text (t : List UInt8) (hl : t.length ≤ 200) : Calls Tryz.prog 9 #[.string ⟨(39 :: t).toArray⟩] w fun x w' => x = .returned (if t.length ≤ 24 then pairW ⟨3, 0, t⟩ 0 else pairW ⟨0, 0, []⟩ 4) ∧ Below w.heap.size w w' := by
  have h0 : ((39 :: t : List UInt8) == [110, 117, 108, 108]) = false := by simp
  have hC := Tryz.strings_CutPrefix ⟨(39 :: t).toArray⟩ ⟨#[39]⟩ (w.alloc (.cells #[.int .i64 0, .int .i64 0, .string ⟨#[]⟩] 23))
  have k1 : ((39 : UInt8) == 39) = true := by decide
  rw [pre_quote, trim_q, k1] at hC
  have hT := textWord_any t (by omega) (w.alloc (.cells #[.int .i64 0, .int .i64 0, .string ⟨#[]⟩] 23))
  clear k1
  by_cases h : t.length ≤ 24
  · rw [if_pos h] at hT ⊢
    clear h hl
    go_enter Tryz.func9, Tryz.ntmps9
    go_wp2_with fail
    refine hC.mono ?_
    rintro e w1 ⟨rfl, rfl⟩
    go_wp2_with fail
    refine hT.mono ?_
    rintro e w2 ⟨rfl, b2⟩
    simp only [pairW]
    obtain ⟨hA2, hb2⟩ := boxed 0 0 [] b2
    clear b2 hC hT
    have c0 : w2.cell? ⟨w.heap.size, 0, none⟩ = some (.int .i64 0) := At.cell hA2 0
    have c1 : w2.cell? ⟨w.heap.size, 1, none⟩ = some (.int .i64 0) := At.cell hA2 1
    have c2 : w2.cell? ⟨w.heap.size, 2, none⟩ = some (.string ⟨#[]⟩) := At.cell hA2 2
    have f0 := At.unfrozen hA2 0
    have f1 := At.unfrozen hA2 1
    have f2 := At.unfrozen hA2 2
    go_wp2_with fail
    refine bodyPost_ret (v := pairW ⟨3, 0, t⟩ 0) (by simp [results, Tryz.results9, go_sem, pairW, c0, c1, c2]) rfl ⟨rfl, below_put3 hb2 _ _ _⟩
  · rw [if_neg h] at hT ⊢
    clear h hl
    go_enter Tryz.func9, Tryz.ntmps9
    go_wp2_with fail
    refine hC.mono ?_
    rintro e w1 ⟨rfl, rfl⟩
    go_wp2_with fail
    refine hT.mono ?_
    rintro e w2 ⟨rfl, b2⟩
    simp only [pairW]
    obtain ⟨hA2, hb2⟩ := boxed 0 0 [] b2
    clear b2 hC hT
    have c0 : w2.cell? ⟨w.heap.size, 0, none⟩ = some (.int .i64 0) := At.cell hA2 0
    have c1 : w2.cell? ⟨w.heap.size, 1, none⟩ = some (.int .i64 0) := At.cell hA2 1
    have c2 : w2.cell? ⟨w.heap.size, 2, none⟩ = some (.string ⟨#[]⟩) := At.cell hA2 2
    have f0 := At.unfrozen hA2 0
    have f1 := At.unfrozen hA2 1
    have f2 := At.unfrozen hA2 2
    go_wp2_with fail
    refine bodyPost_ret (v := pairW ⟨0, 0, []⟩ 4) (by simp [results, Tryz.results9, go_sem, pairW, c0, c1, c2]) rfl ⟨rfl, below_put3 hb2 _ _ _⟩

set_option maxRecDepth 100000 in
set_option maxHeartbeats 1600000 in
/-- A text that begins with f: a float's word, or none. -/
theorem word_float (t : List UInt8) (Q : Vl → Int → Prop)
    (hF : ∀ w1, Below w.heap.size w w1 → Calls Tryz.prog 21 #[.string ⟨t.toArray⟩] w1 fun x w' => (∃ v b, x = .returned (pairW v b) ∧ Q v b) ∧ Below w1.heap.size w1 w') :
    Calls Tryz.prog 9 #[.string ⟨(102 :: t).toArray⟩] w fun x w' => (∃ v b, x = .returned (pairW v b) ∧ Q v b) ∧ Below w.heap.size w w' := by
  have h0 : ((102 :: t : List UInt8) == [110, 117, 108, 108]) = false := by simp
  have hC := Tryz.strings_CutPrefix ⟨(102 :: t).toArray⟩ ⟨#[39]⟩ (w.alloc (.cells #[.int .i64 0, .int .i64 0, .string ⟨#[]⟩] 23))
  have hD := Tryz.strings_CutPrefix ⟨(102 :: t).toArray⟩ ⟨#[102]⟩ (w.alloc (.cells #[.int .i64 0, .int .i64 0, .string ⟨#[]⟩] 23))
  have k1 : ((39 : UInt8) == 102) = false := by decide
  have k2 : ((102 : UInt8) == 102) = true := by decide
  rw [pre_quote, k1] at hC
  rw [pre_f, trim_f, k2] at hD
  have hG := hF (w.alloc (.cells #[.int .i64 0, .int .i64 0, .string ⟨#[]⟩] 23)) (below_box w _)
  clear k1 k2 hF
  go_enter Tryz.func9, Tryz.ntmps9
  go_wp2_with fail
  refine hC.mono ?_
  rintro e w1 ⟨rfl, rfl⟩
  go_wp2_with fail
  refine hD.mono ?_
  rintro e w1 ⟨rfl, rfl⟩
  go_wp2_with fail
  refine hG.mono ?_
  rintro e w2 ⟨⟨⟨k, n, u⟩, b, rfl, hq⟩, b2⟩
  simp only [pairW]
  obtain ⟨hA2, hb2⟩ := boxed 0 0 [] b2
  clear b2 hC hD hG
  have c0 : w2.cell? ⟨w.heap.size, 0, none⟩ = some (.int .i64 0) := At.cell hA2 0
  have c1 : w2.cell? ⟨w.heap.size, 1, none⟩ = some (.int .i64 0) := At.cell hA2 1
  have c2 : w2.cell? ⟨w.heap.size, 2, none⟩ = some (.string ⟨#[]⟩) := At.cell hA2 2
  have f0 := At.unfrozen hA2 0
  have f1 := At.unfrozen hA2 1
  have f2 := At.unfrozen hA2 2
  go_wp2_with fail
  refine bodyPost_ret (v := pairW ⟨k, n, u⟩ b) (by simp [results, Tryz.results9, go_sem, pairW, c0, c1, c2]) rfl ⟨⟨_, _, rfl, hq⟩, below_put3 hb2 _ _ _⟩

set_option maxRecDepth 100000 in
set_option maxHeartbeats 1600000 in
/-- Any other text: a number's word, or none. -/
theorem word_num (h0 : (s == [110, 117, 108, 108]) = false) (h1 : Lib.hasPrefix s [39] = false) (h2 : Lib.hasPrefix s [102] = false) (Q : Vl → Int → Prop)
    (hF : ∀ w1, Below w.heap.size w w1 → Calls Tryz.prog 22 #[.string ⟨s.toArray⟩] w1 fun x w' => (∃ v b, x = .returned (pairW v b) ∧ Q v b) ∧ Below w1.heap.size w1 w') :
    Calls Tryz.prog 9 #[.string ⟨s.toArray⟩] w fun x w' => (∃ v b, x = .returned (pairW v b) ∧ Q v b) ∧ Below w.heap.size w w' := by
  have hC := Tryz.strings_CutPrefix ⟨s.toArray⟩ ⟨#[39]⟩ (w.alloc (.cells #[.int .i64 0, .int .i64 0, .string ⟨#[]⟩] 23))
  have hD := Tryz.strings_CutPrefix ⟨s.toArray⟩ ⟨#[102]⟩ (w.alloc (.cells #[.int .i64 0, .int .i64 0, .string ⟨#[]⟩] 23))
  rw [show Lib.hasPrefix (⟨s.toArray⟩ : ByteArray).data.toList (⟨#[39]⟩ : ByteArray).data.toList = false by rw [list_data]; exact h1] at hC
  rw [show Lib.hasPrefix (⟨s.toArray⟩ : ByteArray).data.toList (⟨#[102]⟩ : ByteArray).data.toList = false by rw [list_data]; exact h2] at hD
  have hG := hF (w.alloc (.cells #[.int .i64 0, .int .i64 0, .string ⟨#[]⟩] 23)) (below_box w _)
  clear h1 h2 hF
  go_enter Tryz.func9, Tryz.ntmps9
  go_wp2_with fail
  refine hC.mono ?_
  rintro e w1 ⟨rfl, rfl⟩
  go_wp2_with fail
  refine hD.mono ?_
  rintro e w1 ⟨rfl, rfl⟩
  go_wp2_with fail
  refine hG.mono ?_
  rintro e w2 ⟨⟨⟨k, n, u⟩, b, rfl, hq⟩, b2⟩
  simp only [pairW]
  obtain ⟨hA2, hb2⟩ := boxed 0 0 [] b2
  clear b2 hC hD hG
  have c0 : w2.cell? ⟨w.heap.size, 0, none⟩ = some (.int .i64 0) := At.cell hA2 0
  have c1 : w2.cell? ⟨w.heap.size, 1, none⟩ = some (.int .i64 0) := At.cell hA2 1
  have c2 : w2.cell? ⟨w.heap.size, 2, none⟩ = some (.string ⟨#[]⟩) := At.cell hA2 2
  have f0 := At.unfrozen hA2 0
  have f1 := At.unfrozen hA2 1
  have f2 := At.unfrozen hA2 2
  go_wp2_with fail
  refine bodyPost_ret (v := pairW ⟨k, n, u⟩ b) (by simp [results, Tryz.results9, go_sem, pairW, c0, c1, c2]) rfl ⟨⟨_, _, rfl, hq⟩, below_put3 hb2 _ _ _⟩
end

/-- Word's answer: none, or the good value whose word the text is. -/
def WordR (s : List UInt8) (x : Ending) : Prop := x = .returned (pairW ⟨0, 0, []⟩ 4) ∨ ∃ v : Vl, v.Ok ∧ v.text.length ≤ 200 ∧ goodV v = true ∧ ShowIs v s ∧ x = .returned (pairW v 0)

theorem itoa_cons (n : Int) : ∃ c r, Lib.itoa n = c :: r ∧ c ≠ 39 ∧ c ≠ 102 ∧ c ≠ 110 := by
  unfold Lib.itoa
  by_cases hn : n < 0
  · rw [if_pos hn]
    exact ⟨45, _, rfl, by decide, by decide, by decide⟩
  · rw [if_neg hn]
    obtain ⟨c, r, e, c1, c2⟩ := digits_head n.toNat
    refine ⟨c, r, e, ?_, ?_, ?_⟩
    all_goals
      intro h
      rw [h] at c1 c2
      revert c1 c2
      decide
theorem good_null : goodV ⟨0, 0, []⟩ = true := by decide
theorem ok_null : (Vl.mk 0 0 []).Ok := ⟨by unfold I64; decide, by unfold I64; decide, by unfold maxLen; decide⟩

/-- The word of a good value is read as that value. -/
theorem word_show (v : Vl) (hv : v.Ok) (hg : goodV v = true) (t : List UInt8) (h : ShowIs v t) (w : World) (hW : WordsM w) :
    Calls Tryz.prog 9 #[.string ⟨t.toArray⟩] w fun x w' => x = .returned (pairW v 0) ∧ Below w.heap.size w w' := by
  obtain ⟨k, n, u⟩ := v
  have hn := hv.num
  simp only at hn
  rcases (goodV_iff _).1 hg with ⟨hk, h1, h2⟩ | ⟨hk, h1⟩ | ⟨hk, h1, h2⟩ | ⟨hk, h1, h2⟩ <;> simp only at hk h1
  · simp only at h2
    subst hk h1 h2
    rcases h with ⟨q, -⟩ | ⟨q, -⟩ | ⟨q, -⟩ | ⟨-, -, -, rfl⟩
    · exact absurd q (by decide)
    · exact absurd q (by decide)
    · exact absurd q (by decide)
    · exact word_null w
  · subst hk h1
    rcases h with ⟨-, rfl⟩ | ⟨q, -⟩ | ⟨q, -⟩ | ⟨q, -⟩
    · simp only
      obtain ⟨c, r, e, c1, c2, c3⟩ := itoa_cons n
      have hl : (Lib.itoa n).length ≤ 201 := by
        have := Lib.itoa_length_le n (by unfold I64 at hn; omega) (by unfold I64 at hn; omega)
        omega
      refine (word_num (Lib.itoa n) w (by rw [e]; simp [c3]) (by rw [e, prefix_cons]; simpa using fun q => c1 q.symm) (by rw [e, prefix_cons]; simpa using fun q => c2 q.symm) (fun v b => v = ⟨1, n, []⟩ ∧ b = 0) (fun w1 h1 => (numberWord_any (Lib.itoa n) hl w1 (hW.below h1)).mono ?_)).mono ?_
      · rintro x w' ⟨hr, hb⟩
        rcases hr with ⟨-, hr⟩ | ⟨m, hm, he, rfl⟩
        · exact absurd rfl (hr n hn)
        · have a1 := atoi_itoa n (by unfold I64 at hn; omega) (by unfold I64 at hn; omega)
          rw [he, atoi_itoa m (by unfold I64 at hm; omega) (by unfold I64 at hm; omega)] at a1
          injection a1 with a1
          exact ⟨⟨_, _, rfl, by rw [a1], rfl⟩, hb⟩
      · rintro x w' ⟨⟨v, b, rfl, rfl, rfl⟩, hb⟩
        exact ⟨rfl, hb⟩
    · exact absurd q (by simp)
    · exact absurd q (by simp)
    · exact absurd rfl q
  · subst hk h1
    simp only at h2
    rcases h with ⟨q, -⟩ | ⟨-, t', rfl, ht⟩ | ⟨q, -⟩ | ⟨-, q, -⟩
    · exact absurd q (by simp)
    · simp only at ht
      have hcl : canonW (wordOf n) < 18446744073709551616 := canonW_lt (wordOf_lt _)
      have hF := fun w1 (h1 : Below w.heap.size w w1) => floatWord_text t' w1 (hW.below h1) _ (canonW_idem _) hcl ht
      rw [canonI_canonW, h2] at hF
      refine (word_float w t' (fun v b => v = ⟨2, n, []⟩ ∧ b = 0) (fun w1 h1 => (hF w1 h1).mono ?_)).mono ?_
      · rintro x w' ⟨rfl, hb⟩
        exact ⟨⟨_, _, rfl, rfl, rfl⟩, hb⟩
      · rintro x w' ⟨⟨v, b, rfl, rfl, rfl⟩, hb⟩
        exact ⟨rfl, hb⟩
    · exact absurd q (by simp)
    · exact absurd rfl q
  · simp only at h2
    subst hk h1
    rcases h with ⟨q, -⟩ | ⟨q, -⟩ | ⟨-, rfl⟩ | ⟨-, -, q, -⟩
    · exact absurd q (by simp)
    · exact absurd q (by simp)
    · have hT := word_text w u (by omega)
      rw [if_pos h2] at hT
      exact hT
    · exact absurd rfl q

/-- Word, of any text. -/
theorem word_any (s : List UInt8) (hs : s.length ≤ 200) (w : World) (hW : WordsM w) :
    Calls Tryz.prog 9 #[.string ⟨s.toArray⟩] w fun x w' => WordR s x ∧ Below w.heap.size w w' := by
  have num : ∀ c r, s = c :: r → c ≠ 39 → c ≠ 102 → s ≠ [110, 117, 108, 108] → Calls Tryz.prog 9 #[.string ⟨s.toArray⟩] w fun x w' => WordR s x ∧ Below w.heap.size w w' := by
    intro c r e c1 c2 c3
    refine (word_num s w (by simpa using c3) (by rw [e, prefix_cons]; simpa using fun q => c1 q.symm) (by rw [e, prefix_cons]; simpa using fun q => c2 q.symm) (fun v b => WordR s (.returned (pairW v b))) (fun w1 h1 => (numberWord_any s (by omega) w1 (hW.below h1)).mono ?_)).mono ?_
    · rintro x w' ⟨hr, hb⟩
      rcases hr with ⟨rfl, -⟩ | ⟨m, hm, he, rfl⟩
      · exact ⟨⟨_, _, rfl, .inl rfl⟩, hb⟩
      · exact ⟨⟨_, _, rfl, .inr ⟨⟨1, m, []⟩, ⟨by unfold I64; simp, hm, by unfold maxLen; simp⟩, by simp, (goodV_iff _).2 (.inr (.inl ⟨rfl, rfl⟩)), .inl ⟨rfl, he⟩, rfl⟩⟩, hb⟩
    · rintro x w' ⟨⟨v, b, rfl, hr⟩, hb⟩
      exact ⟨hr, hb⟩
  cases s with
  | nil =>
    refine (word_num [] w (by decide) rfl rfl (fun v b => WordR [] (.returned (pairW v b))) (fun w1 h1 => (numberWord_any [] (by simp) w1 (hW.below h1)).mono ?_)).mono ?_
    · rintro x w' ⟨hr, hb⟩
      rcases hr with ⟨rfl, -⟩ | ⟨m, hm, he, rfl⟩
      · exact ⟨⟨_, _, rfl, .inl rfl⟩, hb⟩
      · obtain ⟨c, r, e, -⟩ := itoa_cons m
        rw [e] at he
        cases he
    · rintro x w' ⟨⟨v, b, rfl, hr⟩, hb⟩
      exact ⟨hr, hb⟩
  | cons c r =>
    by_cases h39 : c = 39
    · subst h39
      simp only [List.length_cons] at hs
      refine (word_text w r (by omega)).mono ?_
      rintro x w' ⟨rfl, hb⟩
      refine ⟨?_, hb⟩
      by_cases h : r.length ≤ 24
      · rw [if_pos h]
        exact .inr ⟨⟨3, 0, r⟩, ⟨by unfold I64; simp, by unfold I64; simp, by unfold maxLen; simp only; omega⟩, by simp only; omega, (goodV_iff _).2 (.inr (.inr (.inr ⟨rfl, rfl, h⟩))), .inr (.inr (.inl ⟨rfl, rfl⟩)), rfl⟩
      · rw [if_neg h]
        exact .inl rfl
    by_cases h102 : c = 102
    · subst h102
      simp only [List.length_cons] at hs
      refine (word_float w r (fun v b => WordR (102 :: r) (.returned (pairW v b))) (fun w1 h1 => (floatWord_any r w1 (hW.below h1)).mono ?_)).mono ?_
      · rintro x w' ⟨hr, hb⟩
        rcases hr with rfl | ⟨d, d1, d2, d3, rfl⟩
        · exact ⟨⟨_, _, rfl, .inl rfl⟩, hb⟩
        · have q : wordOf (canonI d) = d := by rw [wordOf_canonI d2, d1]
          refine ⟨⟨_, _, rfl, .inr ⟨⟨2, canonI d, []⟩, ⟨by unfold I64; simp, i64_wrap _, by unfold maxLen; simp⟩, by simp, (goodV_iff _).2 (.inr (.inr (.inl ⟨rfl, rfl, by simp only; rw [q]⟩))), .inr (.inl ⟨rfl, r, rfl, by simp only; rw [q, d1]; exact d3⟩), rfl⟩⟩, hb⟩
      · rintro x w' ⟨⟨v, b, rfl, hr⟩, hb⟩
        exact ⟨hr, hb⟩
    by_cases hnull : (c :: r) = [110, 117, 108, 108]
    · rw [hnull]
      refine (word_null w).mono ?_
      rintro x w' ⟨rfl, hb⟩
      exact ⟨.inr ⟨⟨0, 0, []⟩, ok_null, by simp, good_null, .inr (.inr (.inr ⟨by simp, by simp, by simp, rfl⟩)), rfl⟩, hb⟩
    · exact num c r rfl h39 h102 hnull
end Go.Proofs.YtkaeaiagmihmgaaGreatDoor
