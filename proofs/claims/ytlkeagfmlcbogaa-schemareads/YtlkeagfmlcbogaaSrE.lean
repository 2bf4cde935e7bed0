/- takeList for columns and grants. -/
import Derived.Test.YtlkeagfmlcbogaaSrD
import Derived.Test.YtlkeagfmlcbogaaScP
namespace Go.Proofs.Ytlkeagfmlcbogaa
open Go.RowKit

set_option maxRecDepth 100000 in
set_option maxHeartbeats 3200000 in
theorem takeLC_any (b : Nat) (bound : Int) (st : Option (List UInt8)) (w : World) (h : RdO w b st) (hl : lenO st ≤ 1000000) :
    Calls Try.prog 55 #[.pointer (some ⟨b, 0, none⟩), .int .i64 bound, .func (.func 56) #[] #[]] w fun e w' => ∃ v, ∃ L : List Co, e = .returned v ∧ (∀ c ∈ L, okC c) ∧ L.length ≤ lenO st ∧ Got (decM bound decC) st L ∧ RdO w' b (nxt (decM bound decC) st) ∧ w'.ownsRow w.heap.size 35 6 v L.length (L.flatMap Co.cs) ∧ w.grownBy w' (some b) := by
  have hbl := h.lt
  go_enter Try.func55, Try.ntmps55
  go_wp2_with fail
  refine (oM_any b bound st _ h hl).mono ?_
  rintro e w1 ⟨n, rfl, hn, -, kN, h1, g1⟩
  have lN := len_N bound st
  go_wp2_with fail
  go_loopw [7, 11] (fun v i wr => ∃ L : List Co, ∃ sK : Option (List UInt8), L.length ≤ n ∧ i = .int .i64 (L.length : Int) ∧ (∀ c ∈ L, okC c) ∧ Inv decC (nxt (decN bound) st) L sK ∧ lenO sK ≤ lenO st ∧ RdO wr b sK ∧ wr.ownsRow w.heap.size 35 6 v L.length (L.flatMap Co.cs) ∧ w.grownBy wr (some b)) (fun _ i _ => n - (intOf i).toNat)
  case atStart => exact ⟨[], nxt (decN bound) st, by simp, rfl, by simp, inv_zero _ _, lN, h1, World.ownsRow_nil _ _ _ 6, g1⟩
  case round =>
    clear h1 g1
    obtain ⟨L, sK, hLn, rfl, hok, hI, hlK, hR, hown, hg⟩ := hrel
    by_cases hlt : L.length < n
    · go_wp2_with fail
      refine (takeC_any b sK _ hR (by omega)).mono ?_
      rintro e w2 ⟨c, rfl, hc, kc, h2, g2⟩
      have hown2 := own_keep2 hown g2 (by omega)
      have hg2 := grownBy_tr hg g2
      have hI2 := inv_succ hI kc
      have hlC := len_C sK
      have hapart : ∀ g, u7.ownBlock = some g → w.heap.size ≤ g := fun g hg => (World.ownsRow.lt hown2 g hg).1
      have hle := hg2.size
      have HI2 := Lib.hid hI2
      clear hown hg g2 hI hI2 kc hR
      obtain ⟨nm, kd, nn, un, rf, dl⟩ := c
      unfold Co.val
      go_wp2_with (at_builtin; (refine wp_append1 rfl (.tmp 13) (.tmp 17) 36 rfl 35 6 56 _ Try.underlying36 info_col rfl (by omega) hown2 #[.string ⟨nm.toArray⟩, .int .i64 kd, .bool nn, .bool un, .string ⟨rf.toArray⟩, .int .i64 dl] 35 rfl rfl rfl rfl ?c1 (by omega) (by omega) hle ?_))
      case c1 => exact ⟨rfl, rfl, rfl, rfl, rfl, rfl⟩
      intro g cap w5 ho5 hg5 hlt5
      have h5 : RdO w5 b (nxt decC sK) := At.grown h2 hg5.grown (fun e => by have := hapart b e.symm; omega)
      have hg6 := grown_own hg2 hg5.grown hapart
      have HO5 := Lib.hid ho5
      clear ho5 hg5 hg2 hown2 h2 hapart
      go_wp2_with fail
      refine ⟨⟨L ++ [⟨nm, kd, nn, un, rf, dl⟩], nxt decC sK, by simp; omega, by rw [List.length_append]; go_num, ?_, HI2.out, by omega, h5, ?_, hg6⟩, by simp [intOf]; omega⟩
      · intro c hc'
        rcases List.mem_append.1 hc' with k | k
        · exact hok c k
        · rw [List.mem_singleton] at k; rw [k]; exact hc
      · rw [List.flatMap_append, List.length_append]; exact HO5.out
    · obtain hn2 : L.length = n := by omega
      have hE := inv_end kN hI hn2
      go_wp2_with fail
      go_ret
      exact ⟨_, L, rfl, hok, by omega, hE.1, by rw [hE.2]; exact hR, hown, hg⟩

set_option maxRecDepth 100000 in
set_option maxHeartbeats 3200000 in
theorem takeLG_any (b : Nat) (bound : Int) (st : Option (List UInt8)) (w : World) (h : RdO w b st) (hl : lenO st ≤ 1000000) :
    Calls Try.prog 30 #[.pointer (some ⟨b, 0, none⟩), .int .i64 bound, .func (.func 31) #[] #[]] w fun e w' => ∃ v, ∃ L : List Gr, e = .returned v ∧ (∀ c ∈ L, okG c) ∧ L.length ≤ lenO st ∧ Got (decM bound decG) st L ∧ RdO w' b (nxt (decM bound decG) st) ∧ w'.ownsRow w.heap.size 48 3 v L.length (L.flatMap Gr.cs) ∧ w.grownBy w' (some b) := by
  have hbl := h.lt
  go_enter Try.func30, Try.ntmps30
  go_wp2_with fail
  refine (oM_any b bound st _ h hl).mono ?_
  rintro e w1 ⟨n, rfl, hn, -, kN, h1, g1⟩
  have lN := len_N bound st
  go_wp2_with fail
  go_loopw [7, 11] (fun v i wr => ∃ L : List Gr, ∃ sK : Option (List UInt8), L.length ≤ n ∧ i = .int .i64 (L.length : Int) ∧ (∀ c ∈ L, okG c) ∧ Inv decG (nxt (decN bound) st) L sK ∧ lenO sK ≤ lenO st ∧ RdO wr b sK ∧ wr.ownsRow w.heap.size 48 3 v L.length (L.flatMap Gr.cs) ∧ w.grownBy wr (some b)) (fun _ i _ => n - (intOf i).toNat)
  case atStart => exact ⟨[], nxt (decN bound) st, by simp, rfl, by simp, inv_zero _ _, lN, h1, World.ownsRow_nil _ _ _ 3, g1⟩
  case round =>
    clear h1 g1
    obtain ⟨L, sK, hLn, rfl, hok, hI, hlK, hR, hown, hg⟩ := hrel
    by_cases hlt : L.length < n
    · go_wp2_with fail
      refine (takeG_any b sK _ hR (by omega)).mono ?_
      rintro e w2 ⟨c, rfl, hc, kc, h2, g2⟩
      have hown2 := own_keep2 hown g2 (by omega)
      have hg2 := grownBy_tr hg g2
      have hI2 := inv_succ hI kc
      have hlG := len_G sK
      have hapart : ∀ g, u7.ownBlock = some g → w.heap.size ≤ g := fun g hg => (World.ownsRow.lt hown2 g hg).1
      have hle := hg2.size
      have HI2 := Lib.hid hI2
      clear hown hg g2 hI hI2 kc hR
      obtain ⟨ro, tb, bi⟩ := c
      unfold Gr.val
      go_wp2_with (at_builtin; (refine wp_append1 rfl (.tmp 13) (.tmp 17) 23 rfl 48 3 32 _ Try.underlying23 info_grant rfl (by omega) hown2 #[.int .i64 ro, .string ⟨tb.toArray⟩, .int .i64 bi] 48 rfl rfl rfl rfl ?c1 (by omega) (by omega) hle ?_))
      case c1 => exact ⟨rfl, rfl, rfl⟩
      intro g cap w5 ho5 hg5 hlt5
      have h5 : RdO w5 b (nxt decG sK) := At.grown h2 hg5.grown (fun e => by have := hapart b e.symm; omega)
      have hg6 := grown_own hg2 hg5.grown hapart
      have HO5 := Lib.hid ho5
      clear ho5 hg5 hg2 hown2 h2 hapart
      go_wp2_with fail
      refine ⟨⟨L ++ [⟨ro, tb, bi⟩], nxt decG sK, by simp; omega, by rw [List.length_append]; go_num, ?_, HI2.out, by omega, h5, ?_, hg6⟩, by simp [intOf]; omega⟩
      · intro c hc'
        rcases List.mem_append.1 hc' with k | k
        · exact hok c k
        · rw [List.mem_singleton] at k; rw [k]; exact hc
      · rw [List.flatMap_append, List.length_append]; exact HO5.out
    · obtain hn2 : L.length = n := by omega
      have hE := inv_end kN hI hn2
      go_wp2_with fail
      go_ret
      exact ⟨_, L, rfl, hok, by omega, hE.1, by rw [hE.2]; exact hR, hown, hg⟩
end Go.Proofs.Ytlkeagfmlcbogaa
