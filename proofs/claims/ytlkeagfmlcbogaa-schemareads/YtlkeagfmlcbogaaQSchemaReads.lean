/- The walk of the law SchemaReads. -/
import Derived.Test.YtlkeagfmlcbogaaQSsC
namespace Go.Proofs.Ytlkeagfmlcbogaa
open Go.RowKit

/-- A whole reading: the bytes are those of what was read, which fits. -/
theorem read_whole {l : List UInt8} {s : Sd} (h : decSd l = some (s, [])) : l = encSd s ∧ fitsS s = true := by
  obtain ⟨h1, h2⟩ := decSd_sound h
  exact ⟨by rw [List.append_nil] at h1; exact h1, h2⟩

set_option maxRecDepth 100000 in
set_option maxHeartbeats 800000 in
theorem schemaReads_main (l : List UInt8) (w : World) (hs : l.length ≤ maxLen) :
    Calls Try.prog 4 #[.string ⟨l.toArray⟩] w fun e w' => e = .returned (.bool true) ∧ Below w.heap.size w w' := by
  unfold maxLen at hs
  by_cases hg : 2048 < l.length
  · have hg' : decide ((2048 : Int) < (l.length : Int)) = true := by simp; omega
    go_enter Try.func4, Try.ntmps4
    go_wp2_with fail
    refine (alive_any _).mono ?_
    rintro e w1 ⟨rfl, b1⟩
    go_wp2_with fail
    go_ret
    exact ⟨rfl, b1⟩
  · have hg' : decide ((2048 : Int) < (l.length : Int)) = false := by simp; omega
    have hg2 : ¬ (2048 : Int) < (l.length : Int) := by omega
    have hrd := fun w' => sread_any l w' (by omega)
    go_enter Try.func4, Try.ntmps4
    go_wp2_with fail
    refine (alive_any _).mono ?_
    rintro e w1 ⟨rfl, b1⟩
    go_wp2_with fail
    refine (hrd _).mono ?_
    rintro e w2 ⟨b2, h | h⟩
    · obtain ⟨s, rfl, hin, hd⟩ := h
      obtain ⟨hl, hf⟩ := read_whole hd
      have hfit := fun w' (hi : InS w' s) => rfitsS_any s w' hi
      have hby := fun w' (hi : InS w' s) => rbytesS_any s w' hi (by rw [← hl]; omega)
      rw [hf] at hfit
      rw [← hl] at hby
      have hb2 := below_in b1 b2
      clear hrd hd hl hf
      obtain ⟨ver, tA, tn, tcap, tab, gA, gn, gcap, gs⟩ := s
      simp only [Sc.val] at hfit hby ⊢
      have b0 := below_box w2 (.cells #[.int .i64 ver, .slice tA tn tcap, .slice gA gn gcap] 25)
      have aS := At.fresh w2 25 #[.int .i64 ver, .slice tA tn tcap, .slice gA gn gcap]
      have hin0 := hin.below b0
      go_wp2_with fail
      refine (hfit _ hin0).mono ?_
      rintro e w3 ⟨rfl, b3⟩
      have hin3 := hin0.below b3
      obtain ⟨c0, c1, c2⟩ := (aS.below b3 aS.lt).tri1
      have hb3 := below_in hb2 (below_in b0 b3)
      clear b0 aS hin0 b3 hfit hin hb2
      go_wp2_with fail
      refine (hby _ hin3).mono ?_
      rintro e w4 ⟨rfl, b4⟩
      have hb4 := below_in hb3 b4
      clear hby hin3 c0 c1 c2
      go_wp2_with fail
      go_ret
      exact ⟨rfl, hb4⟩
    · obtain ⟨rfl, -⟩ := h
      have hb2 := below_in b1 b2
      go_wp2_with fail
      have b0 := below_box w2 (.cells #[.int .i64 0, .slice none 0 0, .slice none 0 0] 25)
      refine (sameZero_any _).mono ?_
      rintro e w3 ⟨rfl, b3⟩
      have hb3 := below_in hb2 (below_in b0 b3)
      go_wp2_with fail
      go_ret
      exact ⟨rfl, hb3⟩
end Go.Proofs.Ytlkeagfmlcbogaa
