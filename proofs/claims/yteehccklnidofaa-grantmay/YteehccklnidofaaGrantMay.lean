/- The walk of the law GrantMay. -/
import Derived.Test.YteehccklnidofaaGrH
import Derived.Test.YteehccklnidofaaGrO
import Derived.Test.YteehccklnidofaaScG
namespace Go.Proofs.Yteehccklnidofaa
open Go.RowKit

set_option maxRecDepth 100000 in
set_option maxHeartbeats 3200000 in
theorem grantMay_main (s : Sc) (r : Int) (t : List UInt8) (x : Int) (g : Gr) (w : World) (hs : InS w s) (hcap : s.gn ≤ s.gcap) (_hr : I64 r) (_ht : t.length ≤ maxLen) (_hx : I64 x) (hg : g.Ok) :
    Calls Try.prog 5 #[s.val, .int .i64 r, .string ⟨t.toArray⟩, .int .i64 x, g.val] w fun e w' => e = .returned (.bool true) ∧ Below w.heap.size w w' := by
  obtain ⟨W, hW⟩ : ∃ W, (w.alloc (.cells #[.int .i64 s.ver, .slice s.tA s.tn s.tcap, .slice s.gA s.gn s.gcap] 36)).alloc (.cells #[.int .i64 g.role, .string ⟨g.table.toArray⟩, .int .i64 g.bits] 24) = W := ⟨_, rfl⟩
  have b3 : Below w.heap.size w W := by
    rw [← hW]
    have b0 := below_box w (.cells #[.int .i64 s.ver, .slice s.tA s.tn s.tcap, .slice s.gA s.gn s.gcap] 36)
    exact b0.alloc b0.size _
  have aS : At W w.heap.size 36 #[.int .i64 s.ver, .slice s.tA s.tn s.tcap, .slice s.gA s.gn s.gcap] := by
    rw [← hW]; exact (At.fresh _ _ _).alloc _
  have aG : At W (w.heap.size + 1) 24 #[.int .i64 g.role, .string ⟨g.table.toArray⟩, .int .i64 g.bits] := by
    rw [← hW]
    have := At.fresh (w.alloc (.cells #[.int .i64 s.ver, .slice s.tA s.tn s.tcap, .slice s.gA s.gn s.gcap] 36)) 24 #[.int .i64 g.role, .string ⟨g.table.toArray⟩, .int .i64 g.bits]
    simp only [World.size_alloc] at this
    exact this
  have hWc := Lib.hid hW
  clear hW
  have hin := fun w' (b : Below W.heap.size W w') => hs.below (below_in b3 b)
  have hgt := hg.table
  unfold maxLen at hgt
  have hGr := fun w' (b : Below W.heap.size W w') => sgreat_any s w' (hin w' b)
  simp only [Sc.val, Gr.val] at hGr ⊢
  obtain ⟨z, hz⟩ : ∃ z, IntKind.i64.wrap ((t.length : Int) + (g.table.length : Int)) = z := ⟨_, rfl⟩
  go_enter Try.func5, Try.ntmps5
  go_wp2_with fail
  rw [hWc.out]
  clear hWc
  refine (alive_any _).mono ?_
  rintro e w1 ⟨rfl, b1⟩
  obtain ⟨c0, c1, c2⟩ := (aS.below b1 aS.lt).tri0
  go_wp2_with fail
  refine (hGr _ b1).mono ?_
  rintro e w2 ⟨⟨B, rfl⟩, b2⟩
  have b12 := below_in b1 b2
  clear c0 c1 c2
  have aS2 := aS.below b12 aS.lt
  have aG2 := aG.below b12 aG.lt
  obtain ⟨c0, c1, c2⟩ := aS2.tri0
  obtain ⟨g0, g1, g2⟩ := aG2.tri0
  cases B with
  | true =>
    go_wp2_with fail
    go_ret
    exact ⟨rfl, below_in b3 b12⟩
  | false =>
    by_cases h3 : 300 < z
    · have h3' : decide (300 < z) = true := decide_eq_true h3
      go_wp2_with fail
      go_ret
      exact ⟨rfl, below_in b3 b12⟩
    · have h3' : decide (300 < z) = false := decide_eq_false h3
      have hS1 := fun w' (b : Below W.heap.size W w') => rsorted_any s.gA s.gn s.gcap s.grants w' (hin w' b).grants hs.gmax hcap
      have hS2 := fun w' (b : Below W.heap.size W w') => gsorted_any s.gA s.gn s.gcap s.grants w' (hin w' b).grants hs.gmax
      have hg1 := fun w' => ggood_any g w' hg.table
      have hg2 := fun w' => rgoodG_any g w' hg.table
      have ho1 := fun w' (b : Below W.heap.size W w') => gowns_any s r t w' (hin w' b)
      have ho2 := fun w' (b : Below W.heap.size W w') => rowns_any s r t w' (hin w' b)
      have hm1 := fun w' (b : Below W.heap.size W w') => gmay_any s r t x w' (hin w' b)
      have hm2 := fun w' (b : Below W.heap.size W w') => rmay_any s r t x w' (hin w' b)
      have hrole := fun w' => role_any r w'
      obtain ⟨D, hD⟩ : ∃ D, decide (SortedG s.grants) = D := ⟨_, rfl⟩
      rw [hD] at hS1 hS2
      generalize goodG g = GG at hg1 hg2
      generalize ownsS s r t = OO at ho1 ho2
      simp only [Sc.val, Gr.val] at ho1 ho2 hm1 hm2 hg1 hg2
      have HD := Lib.hid hD
      clear hD hGr hin hg hgt h3
      go_wp2_with fail
      refine (hS1 _ b12).mono ?_
      rintro e w3 ⟨rfl, b3'⟩
      have b13 := below_in b12 b3'
      clear hS1 g0 g1 g2 c0 c1 c2 b1 b2 b3'
      have aS3 := aS.below b13 aS.lt
      have aG3 := aG.below b13 aG.lt
      obtain ⟨c0, c1, c2⟩ := aS3.tri0
      obtain ⟨g0, g1, g2⟩ := aG3.tri0
      go_wp2_with fail
      have b13d : Below W.heap.size W w3.drew := b13.drew
      have HS : ∀ w', Below W.heap.size W w' → (w'.cell? ⟨w.heap.size, 0, none⟩ = some (.int .i64 s.ver) ∧ w'.cell? ⟨w.heap.size, 1, none⟩ = some (.slice s.tA s.tn s.tcap) ∧ w'.cell? ⟨w.heap.size, 2, none⟩ = some (.slice s.gA s.gn s.gcap)) ∧ (w'.cell? ⟨w.heap.size + 1, 0, none⟩ = some (.int .i64 g.role) ∧ w'.cell? ⟨w.heap.size + 1, 1, none⟩ = some (.string ⟨g.table.toArray⟩) ∧ w'.cell? ⟨w.heap.size + 1, 2, none⟩ = some (.int .i64 g.bits)) := fun w' b => ⟨(aS.below b aS.lt).tri0, (aG.below b aG.lt).tri0⟩
      clear c0 c1 c2 g0 g1 g2
      by_cases h0 : 0 ≤ r
      · by_cases h7 : r ≤ 7
        · rw [decide_eq_true (show 0 ≤ r ∧ r ≤ 7 from ⟨h0, h7⟩)] at hrole
          refine wp_region_held_drew (S := fun w' => (w'.cell? ⟨w.heap.size, 0, none⟩ = some (.int .i64 s.ver) ∧ w'.cell? ⟨w.heap.size, 1, none⟩ = some (.slice s.tA s.tn s.tcap) ∧ w'.cell? ⟨w.heap.size, 2, none⟩ = some (.slice s.gA s.gn s.gcap)) ∧ (w'.cell? ⟨w.heap.size + 1, 0, none⟩ = some (.int .i64 g.role) ∧ w'.cell? ⟨w.heap.size + 1, 1, none⟩ = some (.string ⟨g.table.toArray⟩) ∧ w'.cell? ⟨w.heap.size + 1, 2, none⟩ = some (.int .i64 g.bits))) (by kernel_rfl) (HS _ b13d) (fun hS => ?_)
          refine take_at (i := 0) (v := ?_) rfl rfl (by kernel_rfl) (by kernel_rfl) (by kernel_rfl) (fun _ _ _ h => h) (by rfl) hS ?_ ?_
          rotate_left
          · intro w' hw
            obtain ⟨⟨s0, s1, s2⟩, q0, q1, q2⟩ := hw
            go_simp
            try with_reducible rfl
          try simp only [List.setIfInBounds_toArray, List.set_cons_zero, List.set_cons_succ]
          refine take_at (i := 1) (v := ?_) rfl rfl (by kernel_rfl) (by kernel_rfl) (by kernel_rfl) (fun _ _ _ h => h) (by rfl) hS ?_ ?_
          rotate_left
          · intro w' hw
            obtain ⟨⟨s0, s1, s2⟩, q0, q1, q2⟩ := hw
            go_simp
            try with_reducible rfl
          try simp only [List.setIfInBounds_toArray, List.set_cons_zero, List.set_cons_succ]
          refine take_at (i := 3) (v := ?_) rfl rfl (by kernel_rfl) (by kernel_rfl) (by kernel_rfl) (fun _ _ _ h => h) (by rfl) hS ?_ ?_
          rotate_left
          · intro w' hw
            obtain ⟨⟨s0, s1, s2⟩, q0, q1, q2⟩ := hw
            go_simp
            try with_reducible rfl
          try simp only [List.setIfInBounds_toArray, List.set_cons_zero, List.set_cons_succ]
          refine only_at (i := 2) rfl (by kernel_rfl) (by rfl) (fun K hK => ?_)
          go_simp
          refine (hS2 w3.drew b13d).mono ?_
          rintro e w4 ⟨rfl, b4⟩
          clear hS
          have b14 := below_in b13d b4
          go_simp
          refine hK.out _ _ (HS _ b14) (fun hS => ?_)
          clear hK K
          try simp only [Act.put, List.setIfInBounds_toArray, List.set_cons_zero, List.set_cons_succ]
          refine take_at (i := 4) (v := ?_) rfl rfl (by kernel_rfl) (by kernel_rfl) (by kernel_rfl) (fun _ _ _ h => h) (by rfl) hS ?_ ?_
          rotate_left
          · intro w' hw
            obtain ⟨⟨s0, s1, s2⟩, q0, q1, q2⟩ := hw
            go_simp
            try with_reducible rfl
          try simp only [List.setIfInBounds_toArray, List.set_cons_zero, List.set_cons_succ]
          refine take_at (i := 5) (v := ?_) rfl rfl (by kernel_rfl) (by kernel_rfl) (by kernel_rfl) (fun _ _ _ h => h) (by rfl) hS ?_ ?_
          rotate_left
          · intro w' hw
            obtain ⟨⟨s0, s1, s2⟩, q0, q1, q2⟩ := hw
            go_simp
            try with_reducible rfl
          try simp only [List.setIfInBounds_toArray, List.set_cons_zero, List.set_cons_succ]
          refine take_at (i := 6) (v := ?_) rfl rfl (by kernel_rfl) (by kernel_rfl) (by kernel_rfl) (fun _ _ _ h => h) (by rfl) hS ?_ ?_
          rotate_left
          · intro w' hw
            obtain ⟨⟨s0, s1, s2⟩, q0, q1, q2⟩ := hw
            go_simp
            try with_reducible rfl
          try simp only [List.setIfInBounds_toArray, List.set_cons_zero, List.set_cons_succ]
          refine take_at (i := 8) (v := ?_) rfl rfl (by kernel_rfl) (by kernel_rfl) (by kernel_rfl) (fun _ _ _ h => h) (by rfl) hS ?_ ?_
          rotate_left
          · intro w' hw
            obtain ⟨⟨s0, s1, s2⟩, q0, q1, q2⟩ := hw
            go_simp
            try with_reducible rfl
          try simp only [List.setIfInBounds_toArray, List.set_cons_zero, List.set_cons_succ]
          refine only_at (i := 7) rfl (by kernel_rfl) (by rfl) (fun K hK => ?_)
          go_simp
          refine (hg1 w4).mono ?_
          rintro e w5 ⟨rfl, b5⟩
          clear hS
          have b15 := below_in b14 b5
          go_simp
          refine hK.out _ _ (HS _ b15) (fun hS => ?_)
          clear hK K
          try simp only [Act.put, List.setIfInBounds_toArray, List.set_cons_zero, List.set_cons_succ]
          refine only_at (i := 9) rfl (by kernel_rfl) (by rfl) (fun K hK => ?_)
          go_simp
          refine (hg2 w5).mono ?_
          rintro e w6 ⟨rfl, b6⟩
          clear hS
          have b16 := below_in b15 b6
          go_simp
          refine hK.out _ _ (HS _ b16) (fun hS => ?_)
          clear hK K
          try simp only [Act.put, List.setIfInBounds_toArray, List.set_cons_zero, List.set_cons_succ]
          refine take_at (i := 10) (v := ?_) rfl rfl (by kernel_rfl) (by kernel_rfl) (by kernel_rfl) (fun _ _ _ h => h) (by rfl) hS ?_ ?_
          rotate_left
          · intro w' hw
            obtain ⟨⟨s0, s1, s2⟩, q0, q1, q2⟩ := hw
            go_simp
            try with_reducible rfl
          try simp only [List.setIfInBounds_toArray, List.set_cons_zero, List.set_cons_succ]
          refine take_at (i := 11) (v := ?_) rfl rfl (by kernel_rfl) (by kernel_rfl) (by kernel_rfl) (fun _ _ _ h => h) (by rfl) hS ?_ ?_
          rotate_left
          · intro w' hw
            obtain ⟨⟨s0, s1, s2⟩, q0, q1, q2⟩ := hw
            go_simp
            try with_reducible rfl
          try simp only [List.setIfInBounds_toArray, List.set_cons_zero, List.set_cons_succ]
          refine take_at (i := 12) (v := ?_) rfl rfl (by kernel_rfl) (by kernel_rfl) (by kernel_rfl) (fun _ _ _ h => h) (by rfl) hS ?_ ?_
          rotate_left
          · intro w' hw
            obtain ⟨⟨s0, s1, s2⟩, q0, q1, q2⟩ := hw
            go_simp
            try with_reducible rfl
          try simp only [List.setIfInBounds_toArray, List.set_cons_zero, List.set_cons_succ]
          refine take_at (i := 13) (v := ?_) rfl rfl (by kernel_rfl) (by kernel_rfl) (by kernel_rfl) (fun _ _ _ h => h) (by rfl) hS ?_ ?_
          rotate_left
          · intro w' hw
            obtain ⟨⟨s0, s1, s2⟩, q0, q1, q2⟩ := hw
            go_simp
            try with_reducible rfl
          try simp only [List.setIfInBounds_toArray, List.set_cons_zero, List.set_cons_succ]
          refine take_at (i := 15) (v := ?_) rfl rfl (by kernel_rfl) (by kernel_rfl) (by kernel_rfl) (fun _ _ _ h => h) (by rfl) hS ?_ ?_
          rotate_left
          · intro w' hw
            obtain ⟨⟨s0, s1, s2⟩, q0, q1, q2⟩ := hw
            go_simp
            try with_reducible rfl
          try simp only [List.setIfInBounds_toArray, List.set_cons_zero, List.set_cons_succ]
          refine take_at (i := 16) (v := ?_) rfl rfl (by kernel_rfl) (by kernel_rfl) (by kernel_rfl) (fun _ _ _ h => h) (by rfl) hS ?_ ?_
          rotate_left
          · intro w' hw
            obtain ⟨⟨s0, s1, s2⟩, q0, q1, q2⟩ := hw
            go_simp
            try with_reducible rfl
          try simp only [List.setIfInBounds_toArray, List.set_cons_zero, List.set_cons_succ]
          refine only_at (i := 14) rfl (by kernel_rfl) (by rfl) (fun K hK => ?_)
          go_simp
          refine (hrole w6).mono ?_
          rintro e w6x ⟨rfl, rfl⟩
          clear hS
          go_simp
          refine hK.out _ _ (HS _ b16) (fun hS => ?_)
          clear hK K
          try simp only [Act.put, List.setIfInBounds_toArray, List.set_cons_zero, List.set_cons_succ]
          refine take_at (i := 17) (v := ?_) rfl rfl (by kernel_rfl) (by kernel_rfl) (by kernel_rfl) (fun _ _ _ h => h) (by rfl) hS ?_ ?_
          rotate_left
          · intro w' hw
            obtain ⟨⟨s0, s1, s2⟩, q0, q1, q2⟩ := hw
            go_simp
            try with_reducible rfl
          try simp only [List.setIfInBounds_toArray, List.set_cons_zero, List.set_cons_succ]
          refine take_at (i := 18) (v := ?_) rfl rfl (by kernel_rfl) (by kernel_rfl) (by kernel_rfl) (fun _ _ _ h => h) (by rfl) hS ?_ ?_
          rotate_left
          · intro w' hw
            obtain ⟨⟨s0, s1, s2⟩, q0, q1, q2⟩ := hw
            go_simp
            try with_reducible rfl
          try simp only [List.setIfInBounds_toArray, List.set_cons_zero, List.set_cons_succ]
          refine take_at (i := 19) (v := ?_) rfl rfl (by kernel_rfl) (by kernel_rfl) (by kernel_rfl) (fun _ _ _ h => h) (by rfl) hS ?_ ?_
          rotate_left
          · intro w' hw
            obtain ⟨⟨s0, s1, s2⟩, q0, q1, q2⟩ := hw
            go_simp
            try with_reducible rfl
          try simp only [List.setIfInBounds_toArray, List.set_cons_zero, List.set_cons_succ]
          refine take_at (i := 20) (v := ?_) rfl rfl (by kernel_rfl) (by kernel_rfl) (by kernel_rfl) (fun _ _ _ h => h) (by rfl) hS ?_ ?_
          rotate_left
          · intro w' hw
            obtain ⟨⟨s0, s1, s2⟩, q0, q1, q2⟩ := hw
            go_simp
            try with_reducible rfl
          try simp only [List.setIfInBounds_toArray, List.set_cons_zero, List.set_cons_succ]
          refine take_at (i := 21) (v := ?_) rfl rfl (by kernel_rfl) (by kernel_rfl) (by kernel_rfl) (fun _ _ _ h => h) (by rfl) hS ?_ ?_
          rotate_left
          · intro w' hw
            obtain ⟨⟨s0, s1, s2⟩, q0, q1, q2⟩ := hw
            go_simp
            try with_reducible rfl
          try simp only [List.setIfInBounds_toArray, List.set_cons_zero, List.set_cons_succ]
          refine take_at (i := 22) (v := ?_) rfl rfl (by kernel_rfl) (by kernel_rfl) (by kernel_rfl) (fun _ _ _ h => h) (by rfl) hS ?_ ?_
          rotate_left
          · intro w' hw
            obtain ⟨⟨s0, s1, s2⟩, q0, q1, q2⟩ := hw
            go_simp
            try with_reducible rfl
          try simp only [List.setIfInBounds_toArray, List.set_cons_zero, List.set_cons_succ]
          refine take_at (i := 23) (v := ?_) rfl rfl (by kernel_rfl) (by kernel_rfl) (by kernel_rfl) (fun _ _ _ h => h) (by rfl) hS ?_ ?_
          rotate_left
          · intro w' hw
            obtain ⟨⟨s0, s1, s2⟩, q0, q1, q2⟩ := hw
            go_simp
            try with_reducible rfl
          try simp only [List.setIfInBounds_toArray, List.set_cons_zero, List.set_cons_succ]
          refine take_at (i := 24) (v := ?_) rfl rfl (by kernel_rfl) (by kernel_rfl) (by kernel_rfl) (fun _ _ _ h => h) (by rfl) hS ?_ ?_
          rotate_left
          · intro w' hw
            obtain ⟨⟨s0, s1, s2⟩, q0, q1, q2⟩ := hw
            go_simp
            try with_reducible rfl
          try simp only [List.setIfInBounds_toArray, List.set_cons_zero, List.set_cons_succ]
          refine take_at (i := 25) (v := ?_) rfl rfl (by kernel_rfl) (by kernel_rfl) (by kernel_rfl) (fun _ _ _ h => h) (by rfl) hS ?_ ?_
          rotate_left
          · intro w' hw
            obtain ⟨⟨s0, s1, s2⟩, q0, q1, q2⟩ := hw
            go_simp
            try with_reducible rfl
          try simp only [List.setIfInBounds_toArray, List.set_cons_zero, List.set_cons_succ]
          refine take_at (i := 26) (v := ?_) rfl rfl (by kernel_rfl) (by kernel_rfl) (by kernel_rfl) (fun _ _ _ h => h) (by rfl) hS ?_ ?_
          rotate_left
          · intro w' hw
            obtain ⟨⟨s0, s1, s2⟩, q0, q1, q2⟩ := hw
            go_simp
            try with_reducible rfl
          try simp only [List.setIfInBounds_toArray, List.set_cons_zero, List.set_cons_succ]
          refine take_at (i := 28) (v := ?_) rfl rfl (by kernel_rfl) (by kernel_rfl) (by kernel_rfl) (fun _ _ _ h => h) (by rfl) hS ?_ ?_
          rotate_left
          · intro w' hw
            obtain ⟨⟨s0, s1, s2⟩, q0, q1, q2⟩ := hw
            go_simp
            try with_reducible rfl
          try simp only [List.setIfInBounds_toArray, List.set_cons_zero, List.set_cons_succ]
          refine take_at (i := 29) (v := ?_) rfl rfl (by kernel_rfl) (by kernel_rfl) (by kernel_rfl) (fun _ _ _ h => h) (by rfl) hS ?_ ?_
          rotate_left
          · intro w' hw
            obtain ⟨⟨s0, s1, s2⟩, q0, q1, q2⟩ := hw
            go_simp
            try with_reducible rfl
          try simp only [List.setIfInBounds_toArray, List.set_cons_zero, List.set_cons_succ]
          refine take_at (i := 30) (v := ?_) rfl rfl (by kernel_rfl) (by kernel_rfl) (by kernel_rfl) (fun _ _ _ h => h) (by rfl) hS ?_ ?_
          rotate_left
          · intro w' hw
            obtain ⟨⟨s0, s1, s2⟩, q0, q1, q2⟩ := hw
            go_simp
            try with_reducible rfl
          try simp only [List.setIfInBounds_toArray, List.set_cons_zero, List.set_cons_succ]
          refine only_at (i := 27) rfl (by kernel_rfl) (by rfl) (fun K hK => ?_)
          go_simp
          refine (ho1 w6 b16).mono ?_
          rintro e w7 ⟨rfl, b7⟩
          clear hS
          have b17 := below_in b16 b7
          go_simp
          refine hK.out _ _ (HS _ b17) (fun hS => ?_)
          clear hK K
          try simp only [Act.put, List.setIfInBounds_toArray, List.set_cons_zero, List.set_cons_succ]
          refine only_at (i := 31) rfl (by kernel_rfl) (by rfl) (fun K hK => ?_)
          go_simp
          refine (ho2 w7 b17).mono ?_
          rintro e w8 ⟨rfl, b8⟩
          clear hS
          have b18 := below_in b17 b8
          go_simp
          refine hK.out _ _ (HS _ b18) (fun hS => ?_)
          clear hK K
          try simp only [Act.put, List.setIfInBounds_toArray, List.set_cons_zero, List.set_cons_succ]
          refine take_at (i := 32) (v := ?_) rfl rfl (by kernel_rfl) (by kernel_rfl) (by kernel_rfl) (fun _ _ _ h => h) (by rfl) hS ?_ ?_
          rotate_left
          · intro w' hw
            obtain ⟨⟨s0, s1, s2⟩, q0, q1, q2⟩ := hw
            go_simp
            try with_reducible rfl
          try simp only [List.setIfInBounds_toArray, List.set_cons_zero, List.set_cons_succ]
          refine take_at (i := 33) (v := ?_) rfl rfl (by kernel_rfl) (by kernel_rfl) (by kernel_rfl) (fun _ _ _ h => h) (by rfl) hS ?_ ?_
          rotate_left
          · intro w' hw
            obtain ⟨⟨s0, s1, s2⟩, q0, q1, q2⟩ := hw
            go_simp
            try with_reducible rfl
          try simp only [List.setIfInBounds_toArray, List.set_cons_zero, List.set_cons_succ]
          refine wpAnyH_done (by kernel_rfl) ?_ _
          clear hS
          clear hS2 hg1 hg2 ho1 ho2 hrole b4 b5 b6 b7 b8 b14 b15 b16
          obtain ⟨⟨c0, c1, c2⟩, -⟩ := HS _ b18
          go_wp2_with fail
          refine (hm1 _ b18).mono ?_
          rintro e w9 ⟨⟨B1, rfl, hB1⟩, b9⟩
          have b19 := below_in b18 b9
          clear c0 c1 c2
          obtain ⟨⟨c0, c1, c2⟩, -⟩ := HS _ b19
          cases D with
          | false =>
            clear hm1 hm2
            go_wp2_with fail
            go_ret
            exact ⟨rfl, below_in b3 b19⟩
          | true =>
            have hB2 := hB1 (of_decide_eq_true HD.out)
            have HB := Lib.hid hB2
            clear hB1 hB2 hm1
            go_wp2_with fail
            refine (hm2 _ b19).mono ?_
            rintro e w10 ⟨⟨B2, rfl, hB3⟩, b10⟩
            have b20 := below_in b19 b10
            obtain rfl : B1 = B2 := Bool.eq_iff_iff.2 (HB.out.trans hB3.symm)
            clear hB3 HB
            go_wp2_with fail
            go_ret
            exact ⟨by simp, below_in b3 b20⟩
        · rw [decide_eq_false (show ¬ (0 ≤ r ∧ r ≤ 7) from fun h => h7 h.2)] at hrole
          refine wp_region_held_drew (S := fun w' => (w'.cell? ⟨w.heap.size, 0, none⟩ = some (.int .i64 s.ver) ∧ w'.cell? ⟨w.heap.size, 1, none⟩ = some (.slice s.tA s.tn s.tcap) ∧ w'.cell? ⟨w.heap.size, 2, none⟩ = some (.slice s.gA s.gn s.gcap)) ∧ (w'.cell? ⟨w.heap.size + 1, 0, none⟩ = some (.int .i64 g.role) ∧ w'.cell? ⟨w.heap.size + 1, 1, none⟩ = some (.string ⟨g.table.toArray⟩) ∧ w'.cell? ⟨w.heap.size + 1, 2, none⟩ = some (.int .i64 g.bits))) (by kernel_rfl) (HS _ b13d) (fun hS => ?_)
          refine take_at (i := 0) (v := ?_) rfl rfl (by kernel_rfl) (by kernel_rfl) (by kernel_rfl) (fun _ _ _ h => h) (by rfl) hS ?_ ?_
          rotate_left
          · intro w' hw
            obtain ⟨⟨s0, s1, s2⟩, q0, q1, q2⟩ := hw
            go_simp
            try with_reducible rfl
          try simp only [List.setIfInBounds_toArray, List.set_cons_zero, List.set_cons_succ]
          refine take_at (i := 1) (v := ?_) rfl rfl (by kernel_rfl) (by kernel_rfl) (by kernel_rfl) (fun _ _ _ h => h) (by rfl) hS ?_ ?_
          rotate_left
          · intro w' hw
            obtain ⟨⟨s0, s1, s2⟩, q0, q1, q2⟩ := hw
            go_simp
            try with_reducible rfl
          try simp only [List.setIfInBounds_toArray, List.set_cons_zero, List.set_cons_succ]
          refine take_at (i := 3) (v := ?_) rfl rfl (by kernel_rfl) (by kernel_rfl) (by kernel_rfl) (fun _ _ _ h => h) (by rfl) hS ?_ ?_
          rotate_left
          · intro w' hw
            obtain ⟨⟨s0, s1, s2⟩, q0, q1, q2⟩ := hw
            go_simp
            try with_reducible rfl
          try simp only [List.setIfInBounds_toArray, List.set_cons_zero, List.set_cons_succ]
          refine only_at (i := 2) rfl (by kernel_rfl) (by rfl) (fun K hK => ?_)
          go_simp
          refine (hS2 w3.drew b13d).mono ?_
          rintro e w4 ⟨rfl, b4⟩
          clear hS
          have b14 := below_in b13d b4
          go_simp
          refine hK.out _ _ (HS _ b14) (fun hS => ?_)
          clear hK K
          try simp only [Act.put, List.setIfInBounds_toArray, List.set_cons_zero, List.set_cons_succ]
          refine take_at (i := 4) (v := ?_) rfl rfl (by kernel_rfl) (by kernel_rfl) (by kernel_rfl) (fun _ _ _ h => h) (by rfl) hS ?_ ?_
          rotate_left
          · intro w' hw
            obtain ⟨⟨s0, s1, s2⟩, q0, q1, q2⟩ := hw
            go_simp
            try with_reducible rfl
          try simp only [List.setIfInBounds_toArray, List.set_cons_zero, List.set_cons_succ]
          refine take_at (i := 5) (v := ?_) rfl rfl (by kernel_rfl) (by kernel_rfl) (by kernel_rfl) (fun _ _ _ h => h) (by rfl) hS ?_ ?_
          rotate_left
          · intro w' hw
            obtain ⟨⟨s0, s1, s2⟩, q0, q1, q2⟩ := hw
            go_simp
            try with_reducible rfl
          try simp only [List.setIfInBounds_toArray, List.set_cons_zero, List.set_cons_succ]
          refine take_at (i := 6) (v := ?_) rfl rfl (by kernel_rfl) (by kernel_rfl) (by kernel_rfl) (fun _ _ _ h => h) (by rfl) hS ?_ ?_
          rotate_left
          · intro w' hw
            obtain ⟨⟨s0, s1, s2⟩, q0, q1, q2⟩ := hw
            go_simp
            try with_reducible rfl
          try simp only [List.setIfInBounds_toArray, List.set_cons_zero, List.set_cons_succ]
          refine take_at (i := 8) (v := ?_) rfl rfl (by kernel_rfl) (by kernel_rfl) (by kernel_rfl) (fun _ _ _ h => h) (by rfl) hS ?_ ?_
          rotate_left
          · intro w' hw
            obtain ⟨⟨s0, s1, s2⟩, q0, q1, q2⟩ := hw
            go_simp
            try with_reducible rfl
          try simp only [List.setIfInBounds_toArray, List.set_cons_zero, List.set_cons_succ]
          refine only_at (i := 7) rfl (by kernel_rfl) (by rfl) (fun K hK => ?_)
          go_simp
          refine (hg1 w4).mono ?_
          rintro e w5 ⟨rfl, b5⟩
          clear hS
          have b15 := below_in b14 b5
          go_simp
          refine hK.out _ _ (HS _ b15) (fun hS => ?_)
          clear hK K
          try simp only [Act.put, List.setIfInBounds_toArray, List.set_cons_zero, List.set_cons_succ]
          refine only_at (i := 9) rfl (by kernel_rfl) (by rfl) (fun K hK => ?_)
          go_simp
          refine (hg2 w5).mono ?_
          rintro e w6 ⟨rfl, b6⟩
          clear hS
          have b16 := below_in b15 b6
          go_simp
          refine hK.out _ _ (HS _ b16) (fun hS => ?_)
          clear hK K
          try simp only [Act.put, List.setIfInBounds_toArray, List.set_cons_zero, List.set_cons_succ]
          refine take_at (i := 10) (v := ?_) rfl rfl (by kernel_rfl) (by kernel_rfl) (by kernel_rfl) (fun _ _ _ h => h) (by rfl) hS ?_ ?_
          rotate_left
          · intro w' hw
            obtain ⟨⟨s0, s1, s2⟩, q0, q1, q2⟩ := hw
            go_simp
            try with_reducible rfl
          try simp only [List.setIfInBounds_toArray, List.set_cons_zero, List.set_cons_succ]
          refine take_at (i := 11) (v := ?_) rfl rfl (by kernel_rfl) (by kernel_rfl) (by kernel_rfl) (fun _ _ _ h => h) (by rfl) hS ?_ ?_
          rotate_left
          · intro w' hw
            obtain ⟨⟨s0, s1, s2⟩, q0, q1, q2⟩ := hw
            go_simp
            try with_reducible rfl
          try simp only [List.setIfInBounds_toArray, List.set_cons_zero, List.set_cons_succ]
          refine take_at (i := 12) (v := ?_) rfl rfl (by kernel_rfl) (by kernel_rfl) (by kernel_rfl) (fun _ _ _ h => h) (by rfl) hS ?_ ?_
          rotate_left
          · intro w' hw
            obtain ⟨⟨s0, s1, s2⟩, q0, q1, q2⟩ := hw
            go_simp
            try with_reducible rfl
          try simp only [List.setIfInBounds_toArray, List.set_cons_zero, List.set_cons_succ]
          refine take_at (i := 13) (v := ?_) rfl rfl (by kernel_rfl) (by kernel_rfl) (by kernel_rfl) (fun _ _ _ h => h) (by rfl) hS ?_ ?_
          rotate_left
          · intro w' hw
            obtain ⟨⟨s0, s1, s2⟩, q0, q1, q2⟩ := hw
            go_simp
            try with_reducible rfl
          try simp only [List.setIfInBounds_toArray, List.set_cons_zero, List.set_cons_succ]
          refine take_at (i := 15) (v := ?_) rfl rfl (by kernel_rfl) (by kernel_rfl) (by kernel_rfl) (fun _ _ _ h => h) (by rfl) hS ?_ ?_
          rotate_left
          · intro w' hw
            obtain ⟨⟨s0, s1, s2⟩, q0, q1, q2⟩ := hw
            go_simp
            try with_reducible rfl
          try simp only [List.setIfInBounds_toArray, List.set_cons_zero, List.set_cons_succ]
          refine take_at (i := 16) (v := ?_) rfl rfl (by kernel_rfl) (by kernel_rfl) (by kernel_rfl) (fun _ _ _ h => h) (by rfl) hS ?_ ?_
          rotate_left
          · intro w' hw
            obtain ⟨⟨s0, s1, s2⟩, q0, q1, q2⟩ := hw
            go_simp
            try with_reducible rfl
          try simp only [List.setIfInBounds_toArray, List.set_cons_zero, List.set_cons_succ]
          refine only_at (i := 14) rfl (by kernel_rfl) (by rfl) (fun K hK => ?_)
          go_simp
          refine (hrole w6).mono ?_
          rintro e w6x ⟨rfl, rfl⟩
          clear hS
          go_simp
          refine hK.out _ _ (HS _ b16) (fun hS => ?_)
          clear hK K
          try simp only [Act.put, List.setIfInBounds_toArray, List.set_cons_zero, List.set_cons_succ]
          refine take_at (i := 17) (v := ?_) rfl rfl (by kernel_rfl) (by kernel_rfl) (by kernel_rfl) (fun _ _ _ h => h) (by rfl) hS ?_ ?_
          rotate_left
          · intro w' hw
            obtain ⟨⟨s0, s1, s2⟩, q0, q1, q2⟩ := hw
            go_simp
            try with_reducible rfl
          try simp only [List.setIfInBounds_toArray, List.set_cons_zero, List.set_cons_succ]
          refine take_at (i := 18) (v := ?_) rfl rfl (by kernel_rfl) (by kernel_rfl) (by kernel_rfl) (fun _ _ _ h => h) (by rfl) hS ?_ ?_
          rotate_left
          · intro w' hw
            obtain ⟨⟨s0, s1, s2⟩, q0, q1, q2⟩ := hw
            go_simp
            try with_reducible rfl
          try simp only [List.setIfInBounds_toArray, List.set_cons_zero, List.set_cons_succ]
          refine take_at (i := 19) (v := ?_) rfl rfl (by kernel_rfl) (by kernel_rfl) (by kernel_rfl) (fun _ _ _ h => h) (by rfl) hS ?_ ?_
          rotate_left
          · intro w' hw
            obtain ⟨⟨s0, s1, s2⟩, q0, q1, q2⟩ := hw
            go_simp
            try with_reducible rfl
          try simp only [List.setIfInBounds_toArray, List.set_cons_zero, List.set_cons_succ]
          refine take_at (i := 20) (v := ?_) rfl rfl (by kernel_rfl) (by kernel_rfl) (by kernel_rfl) (fun _ _ _ h => h) (by rfl) hS ?_ ?_
          rotate_left
          · intro w' hw
            obtain ⟨⟨s0, s1, s2⟩, q0, q1, q2⟩ := hw
            go_simp
            try with_reducible rfl
          try simp only [List.setIfInBounds_toArray, List.set_cons_zero, List.set_cons_succ]
          refine take_at (i := 21) (v := ?_) rfl rfl (by kernel_rfl) (by kernel_rfl) (by kernel_rfl) (fun _ _ _ h => h) (by rfl) hS ?_ ?_
          rotate_left
          · intro w' hw
            obtain ⟨⟨s0, s1, s2⟩, q0, q1, q2⟩ := hw
            go_simp
            try with_reducible rfl
          try simp only [List.setIfInBounds_toArray, List.set_cons_zero, List.set_cons_succ]
          refine take_at (i := 22) (v := ?_) rfl rfl (by kernel_rfl) (by kernel_rfl) (by kernel_rfl) (fun _ _ _ h => h) (by rfl) hS ?_ ?_
          rotate_left
          · intro w' hw
            obtain ⟨⟨s0, s1, s2⟩, q0, q1, q2⟩ := hw
            go_simp
            try with_reducible rfl
          try simp only [List.setIfInBounds_toArray, List.set_cons_zero, List.set_cons_succ]
          refine take_at (i := 23) (v := ?_) rfl rfl (by kernel_rfl) (by kernel_rfl) (by kernel_rfl) (fun _ _ _ h => h) (by rfl) hS ?_ ?_
          rotate_left
          · intro w' hw
            obtain ⟨⟨s0, s1, s2⟩, q0, q1, q2⟩ := hw
            go_simp
            try with_reducible rfl
          try simp only [List.setIfInBounds_toArray, List.set_cons_zero, List.set_cons_succ]
          refine take_at (i := 24) (v := ?_) rfl rfl (by kernel_rfl) (by kernel_rfl) (by kernel_rfl) (fun _ _ _ h => h) (by rfl) hS ?_ ?_
          rotate_left
          · intro w' hw
            obtain ⟨⟨s0, s1, s2⟩, q0, q1, q2⟩ := hw
            go_simp
            try with_reducible rfl
          try simp only [List.setIfInBounds_toArray, List.set_cons_zero, List.set_cons_succ]
          refine take_at (i := 25) (v := ?_) rfl rfl (by kernel_rfl) (by kernel_rfl) (by kernel_rfl) (fun _ _ _ h => h) (by rfl) hS ?_ ?_
          rotate_left
          · intro w' hw
            obtain ⟨⟨s0, s1, s2⟩, q0, q1, q2⟩ := hw
            go_simp
            try with_reducible rfl
          try simp only [List.setIfInBounds_toArray, List.set_cons_zero, List.set_cons_succ]
          refine take_at (i := 26) (v := ?_) rfl rfl (by kernel_rfl) (by kernel_rfl) (by kernel_rfl) (fun _ _ _ h => h) (by rfl) hS ?_ ?_
          rotate_left
          · intro w' hw
            obtain ⟨⟨s0, s1, s2⟩, q0, q1, q2⟩ := hw
            go_simp
            try with_reducible rfl
          try simp only [List.setIfInBounds_toArray, List.set_cons_zero, List.set_cons_succ]
          refine take_at (i := 28) (v := ?_) rfl rfl (by kernel_rfl) (by kernel_rfl) (by kernel_rfl) (fun _ _ _ h => h) (by rfl) hS ?_ ?_
          rotate_left
          · intro w' hw
            obtain ⟨⟨s0, s1, s2⟩, q0, q1, q2⟩ := hw
            go_simp
            try with_reducible rfl
          try simp only [List.setIfInBounds_toArray, List.set_cons_zero, List.set_cons_succ]
          refine take_at (i := 29) (v := ?_) rfl rfl (by kernel_rfl) (by kernel_rfl) (by kernel_rfl) (fun _ _ _ h => h) (by rfl) hS ?_ ?_
          rotate_left
          · intro w' hw
            obtain ⟨⟨s0, s1, s2⟩, q0, q1, q2⟩ := hw
            go_simp
            try with_reducible rfl
          try simp only [List.setIfInBounds_toArray, List.set_cons_zero, List.set_cons_succ]
          refine take_at (i := 30) (v := ?_) rfl rfl (by kernel_rfl) (by kernel_rfl) (by kernel_rfl) (fun _ _ _ h => h) (by rfl) hS ?_ ?_
          rotate_left
          · intro w' hw
            obtain ⟨⟨s0, s1, s2⟩, q0, q1, q2⟩ := hw
            go_simp
            try with_reducible rfl
          try simp only [List.setIfInBounds_toArray, List.set_cons_zero, List.set_cons_succ]
          refine only_at (i := 27) rfl (by kernel_rfl) (by rfl) (fun K hK => ?_)
          go_simp
          refine (ho1 w6 b16).mono ?_
          rintro e w7 ⟨rfl, b7⟩
          clear hS
          have b17 := below_in b16 b7
          go_simp
          refine hK.out _ _ (HS _ b17) (fun hS => ?_)
          clear hK K
          try simp only [Act.put, List.setIfInBounds_toArray, List.set_cons_zero, List.set_cons_succ]
          refine only_at (i := 31) rfl (by kernel_rfl) (by rfl) (fun K hK => ?_)
          go_simp
          refine (ho2 w7 b17).mono ?_
          rintro e w8 ⟨rfl, b8⟩
          clear hS
          have b18 := below_in b17 b8
          go_simp
          refine hK.out _ _ (HS _ b18) (fun hS => ?_)
          clear hK K
          try simp only [Act.put, List.setIfInBounds_toArray, List.set_cons_zero, List.set_cons_succ]
          refine take_at (i := 32) (v := ?_) rfl rfl (by kernel_rfl) (by kernel_rfl) (by kernel_rfl) (fun _ _ _ h => h) (by rfl) hS ?_ ?_
          rotate_left
          · intro w' hw
            obtain ⟨⟨s0, s1, s2⟩, q0, q1, q2⟩ := hw
            go_simp
            try with_reducible rfl
          try simp only [List.setIfInBounds_toArray, List.set_cons_zero, List.set_cons_succ]
          refine take_at (i := 33) (v := ?_) rfl rfl (by kernel_rfl) (by kernel_rfl) (by kernel_rfl) (fun _ _ _ h => h) (by rfl) hS ?_ ?_
          rotate_left
          · intro w' hw
            obtain ⟨⟨s0, s1, s2⟩, q0, q1, q2⟩ := hw
            go_simp
            try with_reducible rfl
          try simp only [List.setIfInBounds_toArray, List.set_cons_zero, List.set_cons_succ]
          refine wpAnyH_done (by kernel_rfl) ?_ _
          clear hS
          clear hS2 hg1 hg2 ho1 ho2 hrole b4 b5 b6 b7 b8 b14 b15 b16
          obtain ⟨⟨c0, c1, c2⟩, -⟩ := HS _ b18
          go_wp2_with fail
          refine (hm1 _ b18).mono ?_
          rintro e w9 ⟨⟨B1, rfl, hB1⟩, b9⟩
          have b19 := below_in b18 b9
          clear c0 c1 c2
          obtain ⟨⟨c0, c1, c2⟩, -⟩ := HS _ b19
          cases D with
          | false =>
            clear hm1 hm2
            go_wp2_with fail
            go_ret
            exact ⟨rfl, below_in b3 b19⟩
          | true =>
            have hB2 := hB1 (of_decide_eq_true HD.out)
            have HB := Lib.hid hB2
            clear hB1 hB2 hm1
            go_wp2_with fail
            refine (hm2 _ b19).mono ?_
            rintro e w10 ⟨⟨B2, rfl, hB3⟩, b10⟩
            have b20 := below_in b19 b10
            obtain rfl : B1 = B2 := Bool.eq_iff_iff.2 (HB.out.trans hB3.symm)
            clear hB3 HB
            go_wp2_with fail
            go_ret
            exact ⟨by simp, below_in b3 b20⟩
      · rw [decide_eq_false (show ¬ (0 ≤ r ∧ r ≤ 7) from fun h => h0 h.1)] at hrole
        refine wp_region_held_drew (S := fun w' => (w'.cell? ⟨w.heap.size, 0, none⟩ = some (.int .i64 s.ver) ∧ w'.cell? ⟨w.heap.size, 1, none⟩ = some (.slice s.tA s.tn s.tcap) ∧ w'.cell? ⟨w.heap.size, 2, none⟩ = some (.slice s.gA s.gn s.gcap)) ∧ (w'.cell? ⟨w.heap.size + 1, 0, none⟩ = some (.int .i64 g.role) ∧ w'.cell? ⟨w.heap.size + 1, 1, none⟩ = some (.string ⟨g.table.toArray⟩) ∧ w'.cell? ⟨w.heap.size + 1, 2, none⟩ = some (.int .i64 g.bits))) (by kernel_rfl) (HS _ b13d) (fun hS => ?_)
        refine take_at (i := 0) (v := ?_) rfl rfl (by kernel_rfl) (by kernel_rfl) (by kernel_rfl) (fun _ _ _ h => h) (by rfl) hS ?_ ?_
        rotate_left
        · intro w' hw
          obtain ⟨⟨s0, s1, s2⟩, q0, q1, q2⟩ := hw
          go_simp
          try with_reducible rfl
        try simp only [List.setIfInBounds_toArray, List.set_cons_zero, List.set_cons_succ]
        refine take_at (i := 1) (v := ?_) rfl rfl (by kernel_rfl) (by kernel_rfl) (by kernel_rfl) (fun _ _ _ h => h) (by rfl) hS ?_ ?_
        rotate_left
        · intro w' hw
          obtain ⟨⟨s0, s1, s2⟩, q0, q1, q2⟩ := hw
          go_simp
          try with_reducible rfl
        try simp only [List.setIfInBounds_toArray, List.set_cons_zero, List.set_cons_succ]
        refine take_at (i := 3) (v := ?_) rfl rfl (by kernel_rfl) (by kernel_rfl) (by kernel_rfl) (fun _ _ _ h => h) (by rfl) hS ?_ ?_
        rotate_left
        · intro w' hw
          obtain ⟨⟨s0, s1, s2⟩, q0, q1, q2⟩ := hw
          go_simp
          try with_reducible rfl
        try simp only [List.setIfInBounds_toArray, List.set_cons_zero, List.set_cons_succ]
        refine only_at (i := 2) rfl (by kernel_rfl) (by rfl) (fun K hK => ?_)
        go_simp
        refine (hS2 w3.drew b13d).mono ?_
        rintro e w4 ⟨rfl, b4⟩
        clear hS
        have b14 := below_in b13d b4
        go_simp
        refine hK.out _ _ (HS _ b14) (fun hS => ?_)
        clear hK K
        try simp only [Act.put, List.setIfInBounds_toArray, List.set_cons_zero, List.set_cons_succ]
        refine take_at (i := 4) (v := ?_) rfl rfl (by kernel_rfl) (by kernel_rfl) (by kernel_rfl) (fun _ _ _ h => h) (by rfl) hS ?_ ?_
        rotate_left
        · intro w' hw
          obtain ⟨⟨s0, s1, s2⟩, q0, q1, q2⟩ := hw
          go_simp
          try with_reducible rfl
        try simp only [List.setIfInBounds_toArray, List.set_cons_zero, List.set_cons_succ]
        refine take_at (i := 5) (v := ?_) rfl rfl (by kernel_rfl) (by kernel_rfl) (by kernel_rfl) (fun _ _ _ h => h) (by rfl) hS ?_ ?_
        rotate_left
        · intro w' hw
          obtain ⟨⟨s0, s1, s2⟩, q0, q1, q2⟩ := hw
          go_simp
          try with_reducible rfl
        try simp only [List.setIfInBounds_toArray, List.set_cons_zero, List.set_cons_succ]
        refine take_at (i := 6) (v := ?_) rfl rfl (by kernel_rfl) (by kernel_rfl) (by kernel_rfl) (fun _ _ _ h => h) (by rfl) hS ?_ ?_
        rotate_left
        · intro w' hw
          obtain ⟨⟨s0, s1, s2⟩, q0, q1, q2⟩ := hw
          go_simp
          try with_reducible rfl
        try simp only [List.setIfInBounds_toArray, List.set_cons_zero, List.set_cons_succ]
        refine take_at (i := 8) (v := ?_) rfl rfl (by kernel_rfl) (by kernel_rfl) (by kernel_rfl) (fun _ _ _ h => h) (by rfl) hS ?_ ?_
        rotate_left
        · intro w' hw
          obtain ⟨⟨s0, s1, s2⟩, q0, q1, q2⟩ := hw
          go_simp
          try with_reducible rfl
        try simp only [List.setIfInBounds_toArray, List.set_cons_zero, List.set_cons_succ]
        refine only_at (i := 7) rfl (by kernel_rfl) (by rfl) (fun K hK => ?_)
        go_simp
        refine (hg1 w4).mono ?_
        rintro e w5 ⟨rfl, b5⟩
        clear hS
        have b15 := below_in b14 b5
        go_simp
        refine hK.out _ _ (HS _ b15) (fun hS => ?_)
        clear hK K
        try simp only [Act.put, List.setIfInBounds_toArray, List.set_cons_zero, List.set_cons_succ]
        refine only_at (i := 9) rfl (by kernel_rfl) (by rfl) (fun K hK => ?_)
        go_simp
        refine (hg2 w5).mono ?_
        rintro e w6 ⟨rfl, b6⟩
        clear hS
        have b16 := below_in b15 b6
        go_simp
        refine hK.out _ _ (HS _ b16) (fun hS => ?_)
        clear hK K
        try simp only [Act.put, List.setIfInBounds_toArray, List.set_cons_zero, List.set_cons_succ]
        refine take_at (i := 10) (v := ?_) rfl rfl (by kernel_rfl) (by kernel_rfl) (by kernel_rfl) (fun _ _ _ h => h) (by rfl) hS ?_ ?_
        rotate_left
        · intro w' hw
          obtain ⟨⟨s0, s1, s2⟩, q0, q1, q2⟩ := hw
          go_simp
          try with_reducible rfl
        try simp only [List.setIfInBounds_toArray, List.set_cons_zero, List.set_cons_succ]
        refine take_at (i := 11) (v := ?_) rfl rfl (by kernel_rfl) (by kernel_rfl) (by kernel_rfl) (fun _ _ _ h => h) (by rfl) hS ?_ ?_
        rotate_left
        · intro w' hw
          obtain ⟨⟨s0, s1, s2⟩, q0, q1, q2⟩ := hw
          go_simp
          try with_reducible rfl
        try simp only [List.setIfInBounds_toArray, List.set_cons_zero, List.set_cons_succ]
        refine take_at (i := 12) (v := ?_) rfl rfl (by kernel_rfl) (by kernel_rfl) (by kernel_rfl) (fun _ _ _ h => h) (by rfl) hS ?_ ?_
        rotate_left
        · intro w' hw
          obtain ⟨⟨s0, s1, s2⟩, q0, q1, q2⟩ := hw
          go_simp
          try with_reducible rfl
        try simp only [List.setIfInBounds_toArray, List.set_cons_zero, List.set_cons_succ]
        refine take_at (i := 13) (v := ?_) rfl rfl (by kernel_rfl) (by kernel_rfl) (by kernel_rfl) (fun _ _ _ h => h) (by rfl) hS ?_ ?_
        rotate_left
        · intro w' hw
          obtain ⟨⟨s0, s1, s2⟩, q0, q1, q2⟩ := hw
          go_simp
          try with_reducible rfl
        try simp only [List.setIfInBounds_toArray, List.set_cons_zero, List.set_cons_succ]
        refine take_at (i := 15) (v := ?_) rfl rfl (by kernel_rfl) (by kernel_rfl) (by kernel_rfl) (fun _ _ _ h => h) (by rfl) hS ?_ ?_
        rotate_left
        · intro w' hw
          obtain ⟨⟨s0, s1, s2⟩, q0, q1, q2⟩ := hw
          go_simp
          try with_reducible rfl
        try simp only [List.setIfInBounds_toArray, List.set_cons_zero, List.set_cons_succ]
        refine take_at (i := 16) (v := ?_) rfl rfl (by kernel_rfl) (by kernel_rfl) (by kernel_rfl) (fun _ _ _ h => h) (by rfl) hS ?_ ?_
        rotate_left
        · intro w' hw
          obtain ⟨⟨s0, s1, s2⟩, q0, q1, q2⟩ := hw
          go_simp
          try with_reducible rfl
        try simp only [List.setIfInBounds_toArray, List.set_cons_zero, List.set_cons_succ]
        refine only_at (i := 14) rfl (by kernel_rfl) (by rfl) (fun K hK => ?_)
        go_simp
        refine (hrole w6).mono ?_
        rintro e w6x ⟨rfl, rfl⟩
        clear hS
        go_simp
        refine hK.out _ _ (HS _ b16) (fun hS => ?_)
        clear hK K
        try simp only [Act.put, List.setIfInBounds_toArray, List.set_cons_zero, List.set_cons_succ]
        refine take_at (i := 17) (v := ?_) rfl rfl (by kernel_rfl) (by kernel_rfl) (by kernel_rfl) (fun _ _ _ h => h) (by rfl) hS ?_ ?_
        rotate_left
        · intro w' hw
          obtain ⟨⟨s0, s1, s2⟩, q0, q1, q2⟩ := hw
          go_simp
          try with_reducible rfl
        try simp only [List.setIfInBounds_toArray, List.set_cons_zero, List.set_cons_succ]
        refine skip_at (i := 18) rfl rfl (by kernel_rfl) (by kernel_rfl) (by kernel_rfl) (fun _ _ _ h => h) (by rfl) hS ?_
        try simp only [List.setIfInBounds_toArray, List.set_cons_zero, List.set_cons_succ]
        refine skip_at (i := 19) rfl rfl (by kernel_rfl) (by kernel_rfl) (by kernel_rfl) (fun _ _ _ h => h) (by rfl) hS ?_
        try simp only [List.setIfInBounds_toArray, List.set_cons_zero, List.set_cons_succ]
        refine take_at (i := 20) (v := ?_) rfl rfl (by kernel_rfl) (by kernel_rfl) (by kernel_rfl) (fun _ _ _ h => h) (by rfl) hS ?_ ?_
        rotate_left
        · intro w' hw
          obtain ⟨⟨s0, s1, s2⟩, q0, q1, q2⟩ := hw
          go_simp
          try with_reducible rfl
        try simp only [List.setIfInBounds_toArray, List.set_cons_zero, List.set_cons_succ]
        refine take_at (i := 21) (v := ?_) rfl rfl (by kernel_rfl) (by kernel_rfl) (by kernel_rfl) (fun _ _ _ h => h) (by rfl) hS ?_ ?_
        rotate_left
        · intro w' hw
          obtain ⟨⟨s0, s1, s2⟩, q0, q1, q2⟩ := hw
          go_simp
          try with_reducible rfl
        try simp only [List.setIfInBounds_toArray, List.set_cons_zero, List.set_cons_succ]
        refine take_at (i := 22) (v := ?_) rfl rfl (by kernel_rfl) (by kernel_rfl) (by kernel_rfl) (fun _ _ _ h => h) (by rfl) hS ?_ ?_
        rotate_left
        · intro w' hw
          obtain ⟨⟨s0, s1, s2⟩, q0, q1, q2⟩ := hw
          go_simp
          try with_reducible rfl
        try simp only [List.setIfInBounds_toArray, List.set_cons_zero, List.set_cons_succ]
        refine take_at (i := 23) (v := ?_) rfl rfl (by kernel_rfl) (by kernel_rfl) (by kernel_rfl) (fun _ _ _ h => h) (by rfl) hS ?_ ?_
        rotate_left
        · intro w' hw
          obtain ⟨⟨s0, s1, s2⟩, q0, q1, q2⟩ := hw
          go_simp
          try with_reducible rfl
        try simp only [List.setIfInBounds_toArray, List.set_cons_zero, List.set_cons_succ]
        refine take_at (i := 24) (v := ?_) rfl rfl (by kernel_rfl) (by kernel_rfl) (by kernel_rfl) (fun _ _ _ h => h) (by rfl) hS ?_ ?_
        rotate_left
        · intro w' hw
          obtain ⟨⟨s0, s1, s2⟩, q0, q1, q2⟩ := hw
          go_simp
          try with_reducible rfl
        try simp only [List.setIfInBounds_toArray, List.set_cons_zero, List.set_cons_succ]
        refine take_at (i := 25) (v := ?_) rfl rfl (by kernel_rfl) (by kernel_rfl) (by kernel_rfl) (fun _ _ _ h => h) (by rfl) hS ?_ ?_
        rotate_left
        · intro w' hw
          obtain ⟨⟨s0, s1, s2⟩, q0, q1, q2⟩ := hw
          go_simp
          try with_reducible rfl
        try simp only [List.setIfInBounds_toArray, List.set_cons_zero, List.set_cons_succ]
        refine take_at (i := 26) (v := ?_) rfl rfl (by kernel_rfl) (by kernel_rfl) (by kernel_rfl) (fun _ _ _ h => h) (by rfl) hS ?_ ?_
        rotate_left
        · intro w' hw
          obtain ⟨⟨s0, s1, s2⟩, q0, q1, q2⟩ := hw
          go_simp
          try with_reducible rfl
        try simp only [List.setIfInBounds_toArray, List.set_cons_zero, List.set_cons_succ]
        refine take_at (i := 28) (v := ?_) rfl rfl (by kernel_rfl) (by kernel_rfl) (by kernel_rfl) (fun _ _ _ h => h) (by rfl) hS ?_ ?_
        rotate_left
        · intro w' hw
          obtain ⟨⟨s0, s1, s2⟩, q0, q1, q2⟩ := hw
          go_simp
          try with_reducible rfl
        try simp only [List.setIfInBounds_toArray, List.set_cons_zero, List.set_cons_succ]
        refine take_at (i := 29) (v := ?_) rfl rfl (by kernel_rfl) (by kernel_rfl) (by kernel_rfl) (fun _ _ _ h => h) (by rfl) hS ?_ ?_
        rotate_left
        · intro w' hw
          obtain ⟨⟨s0, s1, s2⟩, q0, q1, q2⟩ := hw
          go_simp
          try with_reducible rfl
        try simp only [List.setIfInBounds_toArray, List.set_cons_zero, List.set_cons_succ]
        refine take_at (i := 30) (v := ?_) rfl rfl (by kernel_rfl) (by kernel_rfl) (by kernel_rfl) (fun _ _ _ h => h) (by rfl) hS ?_ ?_
        rotate_left
        · intro w' hw
          obtain ⟨⟨s0, s1, s2⟩, q0, q1, q2⟩ := hw
          go_simp
          try with_reducible rfl
        try simp only [List.setIfInBounds_toArray, List.set_cons_zero, List.set_cons_succ]
        refine only_at (i := 27) rfl (by kernel_rfl) (by rfl) (fun K hK => ?_)
        go_simp
        refine (ho1 w6 b16).mono ?_
        rintro e w7 ⟨rfl, b7⟩
        clear hS
        have b17 := below_in b16 b7
        go_simp
        refine hK.out _ _ (HS _ b17) (fun hS => ?_)
        clear hK K
        try simp only [Act.put, List.setIfInBounds_toArray, List.set_cons_zero, List.set_cons_succ]
        refine only_at (i := 31) rfl (by kernel_rfl) (by rfl) (fun K hK => ?_)
        go_simp
        refine (ho2 w7 b17).mono ?_
        rintro e w8 ⟨rfl, b8⟩
        clear hS
        have b18 := below_in b17 b8
        go_simp
        refine hK.out _ _ (HS _ b18) (fun hS => ?_)
        clear hK K
        try simp only [Act.put, List.setIfInBounds_toArray, List.set_cons_zero, List.set_cons_succ]
        refine take_at (i := 32) (v := ?_) rfl rfl (by kernel_rfl) (by kernel_rfl) (by kernel_rfl) (fun _ _ _ h => h) (by rfl) hS ?_ ?_
        rotate_left
        · intro w' hw
          obtain ⟨⟨s0, s1, s2⟩, q0, q1, q2⟩ := hw
          go_simp
          try with_reducible rfl
        try simp only [List.setIfInBounds_toArray, List.set_cons_zero, List.set_cons_succ]
        refine take_at (i := 33) (v := ?_) rfl rfl (by kernel_rfl) (by kernel_rfl) (by kernel_rfl) (fun _ _ _ h => h) (by rfl) hS ?_ ?_
        rotate_left
        · intro w' hw
          obtain ⟨⟨s0, s1, s2⟩, q0, q1, q2⟩ := hw
          go_simp
          try with_reducible rfl
        try simp only [List.setIfInBounds_toArray, List.set_cons_zero, List.set_cons_succ]
        refine wpAnyH_done (by kernel_rfl) ?_ _
        clear hS
        clear hS2 hg1 hg2 ho1 ho2 hrole b4 b5 b6 b7 b8 b14 b15 b16
        obtain ⟨⟨c0, c1, c2⟩, -⟩ := HS _ b18
        go_wp2_with fail
        refine (hm1 _ b18).mono ?_
        rintro e w9 ⟨⟨B1, rfl, hB1⟩, b9⟩
        have b19 := below_in b18 b9
        clear c0 c1 c2
        obtain ⟨⟨c0, c1, c2⟩, -⟩ := HS _ b19
        cases D with
        | false =>
          clear hm1 hm2
          go_wp2_with fail
          go_ret
          exact ⟨rfl, below_in b3 b19⟩
        | true =>
          have hB2 := hB1 (of_decide_eq_true HD.out)
          have HB := Lib.hid hB2
          clear hB1 hB2 hm1
          go_wp2_with fail
          refine (hm2 _ b19).mono ?_
          rintro e w10 ⟨⟨B2, rfl, hB3⟩, b10⟩
          have b20 := below_in b19 b10
          obtain rfl : B1 = B2 := Bool.eq_iff_iff.2 (HB.out.trans hB3.symm)
          clear hB3 HB
          go_wp2_with fail
          go_ret
          exact ⟨by simp, below_in b3 b20⟩
end Go.Proofs.Yteehccklnidofaa
