/- schema.Bytes. -/
import Derived.Test.YtlkeagfmlcbogaaQStC
namespace Go.Proofs.Ytlkeagfmlcbogaa
open Go.RowKit

set_option maxRecDepth 100000 in
set_option maxHeartbeats 1600000 in
theorem sbytes_any (s : Sc) (w : World) (hs : InS w s) (hl : (encSd (treeS s)).length ≤ 80000000) :
    Calls Try.prog 7 #[s.val] w fun e w' => e = .returned (.string ⟨(encSd (treeS s)).toArray⟩) ∧ Below w.heap.size w w' := by
  obtain ⟨ver, tA, tn, tcap, tab, gA, gn, gcap, gs⟩ := s
  obtain ⟨i1, htm, hgm, hT, hG⟩ := hs
  simp only at i1 htm hgm hT hG
  have hE : encSd (treeS ⟨ver, tA, tn, tcap, tab, gA, gn, gcap, gs⟩) = enc ver ++ ((enc (tn : Int) ++ flT tab tn) ++ (enc (gn : Int) ++ flG gs gn)) := by
    rw [encSd_is ver tA tn tcap tab gA gn gcap gs hG.1]; simp only [List.append_assoc]
  rw [hE] at hl ⊢
  simp only [List.length_append] at hl
  have HE := Lib.hid hE
  clear hE
  simp only [Sc.val]
  obtain ⟨W, hW⟩ : ∃ W, (w.alloc (.cells #[.int .i64 ver, .slice tA tn tcap, .slice gA gn gcap] 25)).alloc (.cells #[.slice none 0 0] 52) = W := ⟨_, rfl⟩
  have b3 : Below w.heap.size w W := by
    rw [← hW]
    have b0 := below_box w (.cells #[.int .i64 ver, .slice tA tn tcap, .slice gA gn gcap] 25)
    exact b0.alloc b0.size _
  have aS : At W w.heap.size 25 #[.int .i64 ver, .slice tA tn tcap, .slice gA gn gcap] := by
    rw [← hW]; exact (At.fresh _ _ _).alloc _
  have aW : At W (w.heap.size + 1) 52 #[.slice none 0 0] := by
    rw [← hW]
    have := At.fresh (w.alloc (.cells #[.int .i64 ver, .slice tA tn tcap, .slice gA gn gcap] 25)) 52 #[.slice none 0 0]
    simp only [World.size_alloc] at this
    exact this
  have hwr : Wr w.heap.size (w.heap.size + 1) W [] := ⟨by omega, b3.size, _, aW, Owns.nil _ _ _⟩
  have hsz : W.heap.size = w.heap.size + 1 + 1 := by rw [← hW]; simp
  have hWc := Lib.hid hW
  clear hW
  have hC1 := putI1 w.heap.size (w.heap.size + 1) W [] ver hwr i1 (by simp)
  go_enter Try.func7, Try.ntmps7
  rw [hsz, List.nil_append] at hC1
  clear hsz
  go_wp2_with fail
  rw [hWc.out]
  clear hWc
  refine hC1.mono ?_
  rintro e w1 ⟨rfl, hw1, hb1, hk1⟩
  have aS1 := hk1 _ _ _ aS (by decide) (by omega)
  obtain ⟨c0, c1, c2⟩ := aS1.tri1
  have hC2 := putLT_any w.heap.size (w.heap.size + 1) w w1 _ tA tn tcap tab hw1 rfl (b3.trans hb1) hT htm (by omega)
  clear hC1
  go_wp2_with fail
  refine hC2.mono ?_
  rintro e w2 ⟨rfl, hw2, hb2, hk2⟩
  have aS2 := hk2 _ _ _ aS1 (by decide) (by omega)
  clear c0 c1 c2 hC2
  obtain ⟨c0, c1, c2⟩ := aS2.tri1
  have hC3 := putLG_any w.heap.size (w.heap.size + 1) w w2 _ gA gn gcap gs hw2 rfl (b3.trans (hb1.trans hb2)) hG hgm (by simp only [List.length_append]; omega)
  go_wp2_with fail
  refine hC3.mono ?_
  rintro e w3 ⟨rfl, hw3, hb3, hk3⟩
  clear c0 c1 c2 hC3
  have hbb := b3.trans (hb1.trans (hb2.trans hb3))
  simp only [List.append_assoc] at hw3
  obtain ⟨-, -, v, hat, how⟩ := hw3
  go_wp2_with fail
  refine (wbytes_any _ _ v _ _ hat how).mono ?_
  rintro e w4 ⟨rfl, rfl⟩
  go_wp2_with fail
  go_ret
  refine ⟨ret_s ?_, hbb⟩
  simp only [List.append_assoc]
end Go.Proofs.Ytlkeagfmlcbogaa
