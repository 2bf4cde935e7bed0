/- The walk of the law SchemaBytes. -/
import Derived.Test.YtlkeagfmlcbogaaQStD
import Derived.Test.YtlkeagfmlcbogaaQStM
import Derived.Test.YtlkeagfmlcbogaaQScG
namespace Go.Proofs.Ytlkeagfmlcbogaa
open Go.RowKit

set_option maxRecDepth 100000 in
set_option maxHeartbeats 3200000 in
theorem schemaBytes_main (s : Sc) (w : World) (hs : InS w s) (hw : wtS s ≤ 1048576) :
    Calls Try.prog 3 #[s.val] w fun e w' => e = .returned (.bool true) ∧ Below w.heap.size w w' := by
  obtain ⟨hlen, hok⟩ := encSd_wt hs hw
  have hdec := decSd_enc (treeS s) [] hok
  rw [List.append_nil] at hdec
  have b0 := below_box w (.cells #[.int .i64 s.ver, .slice s.tA s.tn s.tcap, .slice s.gA s.gn s.gcap] 25)
  have aS := At.fresh w 25 #[.int .i64 s.ver, .slice s.tA s.tn s.tcap, .slice s.gA s.gn s.gcap]
  have hin := fun w1 (b1 : Below w.heap.size w w1) => hs.below b1
  have hG := fun w1 (b1 : Below w.heap.size w w1) => sgreat_any s w1 (hin w1 b1)
  have hB := fun w1 (b1 : Below w.heap.size w w1) => sbytes_any s w1 (hin w1 b1) (by omega)
  have hR := fun w1 (b1 : Below w.heap.size w w1) => rbytesS_any s w1 (hin w1 b1) (by omega)
  have hF := fun w1 (b1 : Below w.heap.size w w1) => rfitsS_any s w1 (hin w1 b1)
  have hT := fun w1 => sread_any (encSd (treeS s)) w1 (by omega)
  have hSame := fun (s' : Sc) w1 (b1 : Below w.heap.size w w1) (h : InS w1 s') (he : treeS s = treeS s') => sameS_any s s' w1 (hin w1 b1) h (simS_tree (hin w1 b1) h he)
  have HD := Lib.hid hdec
  clear hdec hok hs hw hlen
  generalize encSd (treeS s) = L at *
  simp only [Sc.val] at hG hB hR hF hSame ⊢
  go_enter Try.func3, Try.ntmps3
  go_wp2_with fail
  generalize (w.alloc (.cells #[.int .i64 s.ver, .slice s.tA s.tn s.tcap, .slice s.gA s.gn s.gcap] 25)) = wb at *
  refine (alive_any _).mono ?_
  rintro e w1 ⟨rfl, b1⟩
  have hb1 := below_in b0 b1
  have aS1 := aS.below b1 aS.lt
  obtain ⟨c0, c1, c2⟩ := aS1.tri1
  go_wp2_with fail
  refine (hG _ hb1).mono ?_
  rintro e w2 ⟨⟨B, rfl⟩, b2⟩
  have hb2 := below_in hb1 b2
  have aS2 := aS1.below b2 aS1.lt
  clear c0 c1 c2
  cases B with
  | true =>
    go_wp2_with fail
    go_ret
    exact ⟨rfl, hb2⟩
  | false =>
    obtain ⟨c0, c1, c2⟩ := aS2.tri1
    go_wp2_with fail
    refine (hB _ hb2).mono ?_
    rintro e w3 ⟨rfl, b3⟩
    have hb3 := below_in hb2 b3
    have aS3 := aS2.below b3 aS2.lt
    clear c0 c1 c2
    obtain ⟨c0, c1, c2⟩ := aS3.tri1
    go_wp2_with fail
    refine (hR _ hb3).mono ?_
    rintro e w4 ⟨rfl, b4⟩
    have hb4 := below_in hb3 b4
    have aS4 := aS3.below b4 aS3.lt
    clear c0 c1 c2 hG hB hR
    go_wp2_with fail
    refine (hT _).mono ?_
    rintro e w5 ⟨b5, h⟩
    have hb5 := below_in hb4 b5
    have aS5 := aS4.below b5 aS4.lt
    rcases h with ⟨s', rfl, hin', hd⟩ | ⟨rfl, hd⟩
    · have hfit : fitsS (treeS s) = true := by
        have h1 := HD.out
        rw [hd] at h1
        cases hf : fitsS (treeS s) with
        | true => rfl
        | false => rw [hf] at h1; simp at h1
      have hte : treeS s = treeS s' := by
        have h1 := HD.out
        rw [hd, hfit, if_pos rfl] at h1
        injection h1 with h1
        injection h1 with h1
        exact h1.symm
      rw [hfit] at hF
      have hSm := fun w1 (b1 : Below w.heap.size w w1) (h : InS w1 s') => hSame s' w1 b1 h hte
      clear hSame hd hfit hte HD hT
      obtain ⟨ver', tA', tn', tcap', tab', gA', gn', gcap', gs'⟩ := s'
      simp only [Sc.val] at hSm ⊢
      have bA := below_box w5 (.cells #[.int .i64 ver', .slice tA' tn' tcap', .slice gA' gn' gcap'] 25)
      have aT := At.fresh w5 25 #[.int .i64 ver', .slice tA' tn' tcap', .slice gA' gn' gcap']
      have hb6 := below_in hb5 bA
      have aS6 := aS5.below bA aS5.lt
      have hin6 := hin'.below bA
      obtain ⟨c0, c1, c2⟩ := aS6.tri1
      clear hin' bA
      go_wp2_with fail
      refine (hF _ hb6).mono ?_
      rintro e w7 ⟨rfl, b7⟩
      have hb7 := below_in hb6 b7
      have hin7 := hin6.below b7
      clear c0 c1 c2
      obtain ⟨c0, c1, c2⟩ := (aS6.below b7 aS6.lt).tri1
      obtain ⟨t0, t1, t2⟩ := (aT.below b7 aT.lt).tri1
      clear hF hin6
      go_wp2_with fail
      refine (hSm _ hb7 hin7).mono ?_
      rintro e w8 ⟨rfl, b8⟩
      have hb8 := below_in hb7 b8
      go_wp2_with fail
      go_ret
      exact ⟨rfl, hb8⟩
    · have hfit : fitsS (treeS s) = false := by
        cases hf : fitsS (treeS s) with
        | false => rfl
        | true =>
          have h1 := HD.out
          rw [hf, if_pos rfl] at h1
          exact absurd h1 (hd _)
      rw [hfit] at hF
      clear hSame hd hfit HD hT
      have bA := below_box w5 (.cells #[.int .i64 0, .slice none 0 0, .slice none 0 0] 25)
      have aT := At.fresh w5 25 #[.int .i64 0, .slice none 0 0, .slice none 0 0]
      have hb6 := below_in hb5 bA
      have aS6 := aS5.below bA aS5.lt
      obtain ⟨c0, c1, c2⟩ := aS6.tri1
      clear bA
      go_wp2_with fail
      refine (hF _ hb6).mono ?_
      rintro e w7 ⟨rfl, b7⟩
      have hb7 := below_in hb6 b7
      clear c0 c1 c2
      obtain ⟨t0, t1, t2⟩ := (aT.below b7 aT.lt).tri1
      clear hF
      go_wp2_with fail
      refine (sameZero_any _).mono ?_
      rintro e w8 ⟨rfl, b8⟩
      have hb8 := below_in hb7 b8
      go_wp2_with fail
      go_ret
      exact ⟨rfl, hb8⟩
end Go.Proofs.Ytlkeagfmlcbogaa
