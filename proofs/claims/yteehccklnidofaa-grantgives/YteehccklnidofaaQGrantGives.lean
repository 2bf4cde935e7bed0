/- The walk of the law GrantGives. -/
import Derived.Test.YteehccklnidofaaQGGa
import Derived.Test.YteehccklnidofaaQGrH
import Derived.Test.YteehccklnidofaaQGrO
import Derived.Test.YteehccklnidofaaQScG
namespace Go.Proofs.Yteehccklnidofaa
open Go.RowKit

theorem put_er {gs gs' : List Gr} {g : Gr} {er : Int} (hs : SortedG gs) (h : PutR gs g er gs') : (∀ x ∈ gs', x.Ok) ∧ (er = 1 ∨ er = 3 ∨ (er = 0 ∧ goodG g = true ∧ SortedG gs' ∧ ∀ r t, bitsG r t gs' = if r = g.role ∧ t = g.table then orI (bitsG r t gs) g.bits else bitsG r t gs)) := by
  have h0 := h
  rcases h with ⟨_, rfl, rfl⟩ | ⟨hg, i, b, hp, h⟩
  · exact ⟨by simp, .inl rfl⟩
  · have hz : er = 0 → (∀ x ∈ gs', x.Ok) ∧ (er = 1 ∨ er = 3 ∨ (er = 0 ∧ goodG g = true ∧ SortedG gs' ∧ ∀ r t, bitsG r t gs' = if r = g.role ∧ t = g.table then orI (bitsG r t gs) g.bits else bitsG r t gs)) := fun e => by
      subst e
      obtain ⟨k1, k2⟩ := put_spec hs h0
      exact ⟨fun x hx => ok_of_good (((sorted_pw _).1 k1).2.1 x hx), .inr (.inr ⟨rfl, hg, k1, k2⟩)⟩
    rcases h with ⟨_, _, rfl, rfl⟩ | ⟨_, _, rfl, _⟩ | ⟨_, rfl, _⟩
    · exact ⟨by simp, .inr (.inl rfl)⟩
    · exact hz rfl
    · exact hz rfl

set_option maxRecDepth 100000 in
set_option maxHeartbeats 3200000 in
theorem grantGives_main (s : Sc) (g : Gr) (r : Int) (t : List UInt8) (x : Int) (w : World) (hs : InS w s) (hcap : s.gn ≤ s.gcap) (hg : g.Ok) (_hr : I64 r) (_ht : t.length ≤ maxLen) (_hx : I64 x) :
    Calls Try.prog 6 #[s.val, g.val, .int .i64 r, .string ⟨t.toArray⟩, .int .i64 x] w fun e w' => e = .returned (.bool true) ∧ Below w.heap.size w w' := by
  obtain ⟨W, hW⟩ : ∃ W, (w.alloc (.cells #[.int .i64 s.ver, .slice s.tA s.tn s.tcap, .slice s.gA s.gn s.gcap] 36)).alloc (.cells #[.int .i64 g.role, .string ⟨g.table.toArray⟩, .int .i64 g.bits] 24) = W := ⟨_, rfl⟩
  have b3 : Below w.heap.size w W := by
    rw [← hW]
    have b0 := below_box w (.cells #[.int .i64 s.ver, .slice s.tA s.tn s.tcap, .slice s.gA s.gn s.gcap] 36)
    exact b0.alloc b0.size _
  have aS : At W w.heap.size 36 #[.int .i64 s.ver, .slice s.tA s.tn s.tcap, .slice s.gA s.gn s.gcap] := by
    rw [← hW]; exact (At.fresh _ _ _).alloc _
  have aG : At W (w.heap.size + 1) 24 #[.int .i64 g.role, .string ⟨g.table.toArray⟩, .int .i64 g.bits] := by
    rw [← hW]
    have := At.fresh (w.alloc (.cells #[.int .i64 s.ver, .slice s.tA s.tn s.tcap, .slice s.gA s.gn s.gcap] 36)) 24 #[.int .i64 g.role, .string ⟨g.table.toArray⟩, .int .i64 g.bits]
    simp only [World.size_alloc] at this
    exact this
  have hWc := Lib.hid hW
  clear hW
  have hin := fun w' (b : Below W.heap.size W w') => hs.below (below_in b3 b)
  have hgt := hg.table
  unfold maxLen at hgt
  have hGr := fun w' (b : Below W.heap.size W w') => sgreat_any s w' (hin w' b)
  simp only [Sc.val, Gr.val] at hGr ⊢
  obtain ⟨z, hz⟩ : ∃ z, IntKind.i64.wrap ((t.length : Int) + (g.table.length : Int)) = z := ⟨_, rfl⟩
  go_enter Try.func6, Try.ntmps6
  go_wp2_with fail
  rw [hWc.out]
  clear hWc
  refine (alive_any _).mono ?_
  rintro e w1 ⟨rfl, b1⟩
  obtain ⟨c0, c1, c2⟩ := (aS.below b1 aS.lt).tri0
  go_wp2_with fail
  refine (hGr _ b1).mono ?_
  rintro e w2 ⟨⟨B, rfl⟩, b2⟩
  have b12 := below_in b1 b2
  clear c0 c1 c2
  have aS2 := aS.below b12 aS.lt
  have aG2 := aG.below b12 aG.lt
  obtain ⟨c0, c1, c2⟩ := aS2.tri0
  obtain ⟨g0, g1, g2⟩ := aG2.tri0
  cases B with
  | true =>
    go_wp2_with fail
    go_ret
    exact ⟨rfl, below_in b3 b12⟩
  | false =>
    have hS1 := fun w' (b : Below W.heap.size W w') => rsorted_any s.gA s.gn s.gcap s.grants w' (hin w' b).grants hs.gmax hcap
    obtain ⟨D, hD⟩ : ∃ D, decide (SortedG s.grants) = D := ⟨_, rfl⟩
    rw [hD] at hS1
    have HD := Lib.hid hD
    clear hD hGr
    go_wp2_with fail
    refine (hS1 _ b12).mono ?_
    rintro e w3 ⟨rfl, b3'⟩
    have b13 := below_in b12 b3'
    clear hS1 g0 g1 g2 c0 c1 c2 b1 b2 b3'
    have aS3 := aS.below b13 aS.lt
    have aG3 := aG.below b13 aG.lt
    obtain ⟨c0, c1, c2⟩ := aS3.tri0
    obtain ⟨g0, g1, g2⟩ := aG3.tri0
    cases D with
    | false =>
      go_wp2_with fail
      go_ret
      exact ⟨rfl, below_in b3 b13⟩
    | true =>
      have HS : Hid (SortedG s.grants) := Lib.hid (of_decide_eq_true HD.out)
      by_cases h3 : 300 < z
      · have h3' : decide (300 < z) = true := decide_eq_true h3
        go_wp2_with fail
        go_ret
        exact ⟨rfl, below_in b3 b13⟩
      · have h3' : decide (300 < z) = false := decide_eq_false h3
        have hn64 : s.gn ≤ 64 := by have := HS.out.1; have := hs.grants.1; omega
        have hP := gput_any s.gA s.gn s.gcap s.grants g w3 (hin _ b13).grants (by omega) hg
        unfold Gr.val at hP
        clear HD
        go_wp2_with fail
        refine hP.mono ?_
        rintro e w4 ⟨⟨v, er, gs', rfl, ho, hR⟩, b4⟩
        have b14 := below_in b13 b4
        obtain ⟨hok, her⟩ := put_er HS.out hR
        obtain ⟨A', c', rfl, hrow, hc'⟩ := own_rowG ho hok
        clear hP hR ho c0 c1 c2 g0 g1 g2
        have HB := Lib.hid her
        obtain ⟨m, hm⟩ : ∃ m, gs'.length = m := ⟨_, rfl⟩
        rw [hm] at hrow hc' ⊢
        have hrow' := fun w' (k : Below w4.heap.size w4 w') => hrow.below k
        clear her hok hrow
        have aS4 := aS.below b14 aS.lt
        have aG4 := aG.below b14 aG.lt
        obtain ⟨c0, c1, c2⟩ := aS4.tri0
        obtain ⟨g0, g1, g2⟩ := aG4.tri0
        rcases HB.out with rfl | rfl | ⟨rfl, hgd, hs1, hb1⟩
        · clear HB
          go_wp2_with fail
          go_ret
          exact ⟨rfl, below_in b3 b14⟩
        · clear HB
          go_wp2_with fail
          go_ret
          exact ⟨rfl, below_in b3 b14⟩
        · have HGD := Lib.hid hgd
          have HS1 := Lib.hid hs1
          have HB1 := Lib.hid hb1
          have hm64 : m ≤ 64 := by rw [← hm]; exact hs1.1
          clear HB hgd hs1 hb1
          have hF := refFind_any s g.table w4 (hin _ b14)
          rw [firstI_of] at hF
          obtain ⟨o, hto⟩ : ∃ o, tabAt s g.table = o := ⟨_, rfl⟩
          rw [hto] at hF
          have HT := Lib.hid hto
          clear hto
          unfold Sc.val at hF
          cases o with
          | none =>
            simp only at hF
            go_wp2_with fail
            refine hF.mono ?_
            rintro e w5 ⟨rfl, b5⟩
            have b15 := below_in b14 b5
            go_wp2_with fail
            go_ret
            exact ⟨rfl, below_in b3 b15⟩
          | some jo =>
            simp only at hF
            have hjo : ¬ ((jo : Int) < 0) := by omega
            go_wp2_with fail
            refine hF.mono ?_
            rintro e w5 ⟨rfl, b5⟩
            have b15 := below_in b14 b5
            have b45 := below_in (Below.refl w4.heap.size w4) b5
            have hTF : Hid (tabAt s g.table ≠ none) := by
              show _ ≠ _
              rw [HT.out]
              exact fun h => by cases h
            clear hF HT c0 c1 c2 g0 g1 g2
            have aS5 := aS.below b15 aS.lt
            have aG5 := aG.below b15 aG.lt
            obtain ⟨c0, c1, c2⟩ := aS5.tri0
            obtain ⟨g0, g1, g2⟩ := aG5.tri0
            have kD := below_box w5 (.cells #[.int .i64 s.ver, .slice s.tA s.tn s.tcap, .slice A' m c'] 36)
            have aD := At.fresh w5 36 #[.int .i64 s.ver, .slice s.tA s.tn s.tcap, .slice A' m c']
            have aGD := aG5.below kD aG5.lt
            obtain ⟨h0, h1, h2⟩ := aGD.tri0
            have b1D := below_in b15 kD
            have b4D := below_in b45 kD
            go_wp2_with fail
            generalize (w5.alloc (.cells #[.int .i64 s.ver, .slice s.tA s.tn s.tcap, .slice A' m c'] 36)) = wD at *
            have hTk := gtake_any A' m c' gs' g wD (hrow' _ b4D) (by omega) hg
            unfold Gr.val at hTk
            refine hTk.mono ?_
            rintro e w6 ⟨⟨v2, er2, gs2, rfl, ho2, hR2⟩, b6⟩
            clear c0 c1 c2 g0 g1 g2 h0 h1 h2 hTk
            have b16 := below_in b1D b6
            have b46 := below_in b4D b6
            obtain ⟨rfl, hTR⟩ : er2 = 0 ∧ TakeR gs' g 0 gs2 := by
              have h0 := hR2
              rcases hR2 with ⟨h, -⟩ | ⟨-, he, -⟩
              · rw [HGD.out] at h; cases h
              · subst he; exact ⟨rfl, h0⟩
            obtain ⟨ks2, kl2, kb2⟩ := take_spec HS1.out hTR
            obtain ⟨A2, c2, rfl, hrow2, hc2⟩ := own_rowG ho2 (fun y hy => ok_of_good (((sorted_pw _).1 ks2).2.1 y hy))
            have HS2 := Lib.hid ks2
            have HB2 := Lib.hid kb2
            obtain ⟨m2, hm2⟩ : ∃ m2, gs2.length = m2 := ⟨_, rfl⟩
            rw [hm2] at hrow2 hc2 kl2 ⊢
            have hrow2' := fun w' (k : Below w6.heap.size w6 w') => hrow2.below k
            clear ks2 kb2 hrow2 hTR hR2 ho2
            have aS6 := aS.below b16 aS.lt
            have aG6 := aG.below b16 aG.lt
            have aD6 := aD.below b6 aD.lt
            obtain ⟨c0, c1, c2'⟩ := aS6.tri0
            obtain ⟨g0, g1, g2⟩ := aG6.tri0
            obtain ⟨d0, d1, d2⟩ := aD6.tri0
            have kE := below_box w6 (.cells #[.int .i64 s.ver, .slice s.tA s.tn s.tcap, .slice A2 m2 c2] 36)
            have aE := At.fresh w6 36 #[.int .i64 s.ver, .slice s.tA s.tn s.tcap, .slice A2 m2 c2]
            have b1E := below_in b16 kE
            have b4E := below_in b46 kE
            have b6E := below_in (Below.refl w6.heap.size w6) kE
            have aSE := aS6.below kE aS6.lt
            have aGE := aG6.below kE aG6.lt
            have aDE := aD6.below kE aD6.lt
            go_wp2_with fail
            generalize (w6.alloc (.cells #[.int .i64 s.ver, .slice s.tA s.tn s.tcap, .slice A2 m2 c2] 36)) = wE at *
            clear c0 c1 c2' g0 g1 g2 d0 d1 d2
            have hml : m ≤ maxLen := by unfold maxLen; omega
            have hml2 : m2 ≤ maxLen := by unfold maxLen; omega
            have HM1 : ∀ (r : Int) (t : List UInt8) (x : Int) w', Below wE.heap.size wE w' → Calls Try.prog 22 #[.agg #[.int .i64 s.ver, .slice s.tA s.tn s.tcap, .slice A' m c'], .int .i64 r, .string ⟨t.toArray⟩, .int .i64 x] w' fun e w2 => MayE (s.give A' m c' gs') r t x e ∧ Below w'.heap.size w' w2 :=
              fun r t x w' k => gmay_any (s.give A' m c' gs') r t x w' (give_in (hin w' (below_in b1E k)) c' (hrow' w' (below_in b4E k)) hml)
            have HM2 : ∀ (r : Int) (t : List UInt8) (x : Int) w', Below wE.heap.size wE w' → Calls Try.prog 22 #[.agg #[.int .i64 s.ver, .slice s.tA s.tn s.tcap, .slice A2 m2 c2], .int .i64 r, .string ⟨t.toArray⟩, .int .i64 x] w' fun e w2 => MayE (s.give A2 m2 c2 gs2) r t x e ∧ Below w'.heap.size w' w2 :=
              fun r t x w' k => gmay_any (s.give A2 m2 c2 gs2) r t x w' (give_in (hin w' (below_in b1E k)) c2 (hrow2' w' (below_in b6E k)) hml2)
            have HM0 : ∀ (r : Int) (t : List UInt8) (x : Int) w', Below wE.heap.size wE w' → Calls Try.prog 22 #[.agg #[.int .i64 s.ver, .slice s.tA s.tn s.tcap, .slice s.gA s.gn s.gcap], .int .i64 r, .string ⟨t.toArray⟩, .int .i64 x] w' fun e w2 => MayE s r t x e ∧ Below w'.heap.size w' w2 :=
              fun r t x w' k => gmay_any s r t x w' (hin w' (below_in b1E k))
            have HO : ∀ (r : Int) (t : List UInt8) w', Below wE.heap.size wE w' → Calls Try.prog 21 #[.agg #[.int .i64 s.ver, .slice s.tA s.tn s.tcap, .slice s.gA s.gn s.gcap], .int .i64 r, .string ⟨t.toArray⟩] w' fun e w2 => e = .returned (.bool (ownsS s r t)) ∧ Below w'.heap.size w' w2 :=
              fun r t w' k => rowns_any s r t w' (hin w' (below_in b1E k))
            have keep : ∀ w', Below wE.heap.size wE w' → (w'.cell? ⟨w.heap.size, 0, none⟩ = some (.int .i64 s.ver) ∧ w'.cell? ⟨w.heap.size, 1, none⟩ = some (.slice s.tA s.tn s.tcap) ∧ w'.cell? ⟨w.heap.size, 2, none⟩ = some (.slice s.gA s.gn s.gcap)) ∧ (w'.cell? ⟨w.heap.size + 1, 0, none⟩ = some (.int .i64 g.role) ∧ w'.cell? ⟨w.heap.size + 1, 1, none⟩ = some (.string ⟨g.table.toArray⟩) ∧ w'.cell? ⟨w.heap.size + 1, 2, none⟩ = some (.int .i64 g.bits)) ∧ (w'.cell? ⟨w5.heap.size, 0, none⟩ = some (.int .i64 s.ver) ∧ w'.cell? ⟨w5.heap.size, 1, none⟩ = some (.slice s.tA s.tn s.tcap) ∧ w'.cell? ⟨w5.heap.size, 2, none⟩ = some (.slice A' m c')) ∧ (w'.cell? ⟨w6.heap.size, 0, none⟩ = some (.int .i64 s.ver) ∧ w'.cell? ⟨w6.heap.size, 1, none⟩ = some (.slice s.tA s.tn s.tcap) ∧ w'.cell? ⟨w6.heap.size, 2, none⟩ = some (.slice A2 m2 c2)) := fun w' k => ⟨(aSE.below k aSE.lt).tri0, (aGE.below k aGE.lt).tri0, (aDE.below k aDE.lt).tri0, (aE.below k aE.lt).tri0⟩
            have kd : Below wE.heap.size wE wE.drew := (Below.refl _ _).drew
            have S0 := keep _ kd
            have HG1 : Hid (MayP (s.give A' m c' gs') g.role g.table g.bits) := Lib.hid (give_may (s := s) (s1 := s.give A' m c' gs') (fun _ => rfl) HS.out HS1.out HGD.out hTF.out HB1.out)
            have HG2 : Hid (MayP (s.give A2 m2 c2 gs2) g.role g.table g.bits ↔ ownsS s g.role g.table = true) := Lib.hid (taken_may (s := s) (s1 := s.give A' m c' gs') (s2 := s.give A2 m2 c2 gs2) (fun _ _ => rfl) HS1.out HS2.out HGD.out HB2.out)
            obtain ⟨O, hO⟩ : ∃ O, ownsS s g.role g.table = O := ⟨_, rfl⟩
            have HOg := HO g.role g.table
            rw [hO] at HG2 HOg
            clear hO HO
            go_region_held3 (fun w' => (w'.cell? ⟨w.heap.size, 0, none⟩ = some (.int .i64 s.ver) ∧ w'.cell? ⟨w.heap.size, 1, none⟩ = some (.slice s.tA s.tn s.tcap) ∧ w'.cell? ⟨w.heap.size, 2, none⟩ = some (.slice s.gA s.gn s.gcap)) ∧ (w'.cell? ⟨w.heap.size + 1, 0, none⟩ = some (.int .i64 g.role) ∧ w'.cell? ⟨w.heap.size + 1, 1, none⟩ = some (.string ⟨g.table.toArray⟩) ∧ w'.cell? ⟨w.heap.size + 1, 2, none⟩ = some (.int .i64 g.bits)) ∧ (w'.cell? ⟨w5.heap.size, 0, none⟩ = some (.int .i64 s.ver) ∧ w'.cell? ⟨w5.heap.size, 1, none⟩ = some (.slice s.tA s.tn s.tcap) ∧ w'.cell? ⟨w5.heap.size, 2, none⟩ = some (.slice A' m c')) ∧ (w'.cell? ⟨w6.heap.size, 0, none⟩ = some (.int .i64 s.ver) ∧ w'.cell? ⟨w6.heap.size, 1, none⟩ = some (.slice s.tA s.tn s.tcap) ∧ w'.cell? ⟨w6.heap.size, 2, none⟩ = some (.slice A2 m2 c2)))
              (first | exact S0 | exact S1 | exact S2 | exact S3)
              (first
                | (go_at_call_of 22 m; refine (HM1 g.role g.table g.bits _ kd).mono ?_; rintro e w7 ⟨⟨B1, rfl, hB1⟩, b7⟩; have k7 := below_in kd b7; have S1 := keep _ k7; obtain rfl : B1 = true := (hB1 HS1.out).2 HG1.out; clear hB1)
                | (go_at_call_of 22 m2; refine (HM2 g.role g.table g.bits _ k7).mono ?_; rintro e w8 ⟨⟨B2, rfl, hB2⟩, b8⟩; have k8 := below_in k7 b8; have S2 := keep _ k8; obtain rfl : B2 = O := Bool.eq_iff_iff.2 ((hB2 HS2.out).trans HG2.out); clear hB2)
                | (go_at_call 21; refine (HOg _ k8).mono ?_; rintro e w9 ⟨rfl, b9⟩; have k9 := below_in k8 b9; have S3 := keep _ k9))
            clear HG1 HG2 S0 S1 S2 HOg
            by_cases ek : r = g.role ∧ t = g.table
            · obtain ⟨e1, e2⟩ := ek
              subst e1 e2
              obtain ⟨⟨c0, c1, c2'⟩, ⟨g0, g1, g2⟩, ⟨d0, d1, d2⟩, e0, e1, e2⟩ := S3
              clear HM1 HM2 HM0 keep
              clear hz hm hm2 hin hrow' hrow2' aS aS2 aS3 aS4 aS5 aS6 aSE aG2 aG3 aG4 aG5 aG6 aGD aD aD6 HB1 HB2
              go_wp2_with fail
              refine wp_region_held_drew (S := fun w' => True) (by kernel_rfl) (trivial) (fun hS => ?_)
              refine take_at (i := 0) (v := ?_) rfl rfl (by kernel_rfl) (by kernel_rfl) (by kernel_rfl) (fun _ _ _ h => h) (by rfl) hS ?_ ?_
              rotate_left
              · intro w' hw
                obtain _ := hw
                go_simp
                try with_reducible rfl
              try simp only [List.setIfInBounds_toArray, List.set_cons_zero, List.set_cons_succ]
              refine take_at (i := 1) (v := ?_) rfl rfl (by kernel_rfl) (by kernel_rfl) (by kernel_rfl) (fun _ _ _ h => h) (by rfl) hS ?_ ?_
              rotate_left
              · intro w' hw
                obtain _ := hw
                go_simp
                try with_reducible rfl
              try simp only [List.setIfInBounds_toArray, List.set_cons_zero, List.set_cons_succ]
              refine take_at (i := 2) (v := ?_) rfl rfl (by kernel_rfl) (by kernel_rfl) (by kernel_rfl) (fun _ _ _ h => h) (by rfl) hS ?_ ?_
              rotate_left
              · intro w' hw
                obtain _ := hw
                go_simp
                try with_reducible rfl
              try simp only [List.setIfInBounds_toArray, List.set_cons_zero, List.set_cons_succ]
              refine skip_at (i := 3) rfl rfl (by kernel_rfl) (by kernel_rfl) (by kernel_rfl) (fun _ _ _ h => h) (by rfl) hS ?_
              try simp only [List.setIfInBounds_toArray, List.set_cons_zero, List.set_cons_succ]
              refine skip_at (i := 4) rfl rfl (by kernel_rfl) (by kernel_rfl) (by kernel_rfl) (fun _ _ _ h => h) (by rfl) hS ?_
              try simp only [List.setIfInBounds_toArray, List.set_cons_zero, List.set_cons_succ]
              refine skip_at (i := 5) rfl rfl (by kernel_rfl) (by kernel_rfl) (by kernel_rfl) (fun _ _ _ h => h) (by rfl) hS ?_
              try simp only [List.setIfInBounds_toArray, List.set_cons_zero, List.set_cons_succ]
              refine skip_at (i := 6) rfl rfl (by kernel_rfl) (by kernel_rfl) (by kernel_rfl) (fun _ _ _ h => h) (by rfl) hS ?_
              try simp only [List.setIfInBounds_toArray, List.set_cons_zero, List.set_cons_succ]
              refine skip_at (i := 8) rfl rfl (by kernel_rfl) (by kernel_rfl) (by kernel_rfl) (fun _ _ _ h => h) (by rfl) hS ?_
              try simp only [List.setIfInBounds_toArray, List.set_cons_zero, List.set_cons_succ]
              refine skip_at (i := 9) rfl rfl (by kernel_rfl) (by kernel_rfl) (by kernel_rfl) (fun _ _ _ h => h) (by rfl) hS ?_
              try simp only [List.setIfInBounds_toArray, List.set_cons_zero, List.set_cons_succ]
              refine skip_at (i := 10) rfl rfl (by kernel_rfl) (by kernel_rfl) (by kernel_rfl) (fun _ _ _ h => h) (by rfl) hS ?_
              try simp only [List.setIfInBounds_toArray, List.set_cons_zero, List.set_cons_succ]
              refine skip_at (i := 11) rfl rfl (by kernel_rfl) (by kernel_rfl) (by kernel_rfl) (fun _ _ _ h => h) (by rfl) hS ?_
              try simp only [List.setIfInBounds_toArray, List.set_cons_zero, List.set_cons_succ]
              refine skip_only (i := 7) rfl (by kernel_rfl) (by rfl) hS ?_
              try simp only [Act.put, List.setIfInBounds_toArray, List.set_cons_zero, List.set_cons_succ]
              refine skip_only (i := 12) rfl (by kernel_rfl) (by rfl) hS ?_
              try simp only [Act.put, List.setIfInBounds_toArray, List.set_cons_zero, List.set_cons_succ]
              refine skip_only (i := 13) rfl (by kernel_rfl) (by rfl) hS ?_
              try simp only [Act.put, List.setIfInBounds_toArray, List.set_cons_zero, List.set_cons_succ]
              refine skip_only (i := 14) rfl (by kernel_rfl) (by rfl) hS ?_
              try simp only [Act.put, List.setIfInBounds_toArray, List.set_cons_zero, List.set_cons_succ]
              refine skip_at (i := 15) rfl rfl (by kernel_rfl) (by kernel_rfl) (by kernel_rfl) (fun _ _ _ h => h) (by rfl) hS ?_
              try simp only [List.setIfInBounds_toArray, List.set_cons_zero, List.set_cons_succ]
              refine skip_at (i := 16) rfl rfl (by kernel_rfl) (by kernel_rfl) (by kernel_rfl) (fun _ _ _ h => h) (by rfl) hS ?_
              try simp only [List.setIfInBounds_toArray, List.set_cons_zero, List.set_cons_succ]
              refine skip_at (i := 17) rfl rfl (by kernel_rfl) (by kernel_rfl) (by kernel_rfl) (fun _ _ _ h => h) (by rfl) hS ?_
              try simp only [List.setIfInBounds_toArray, List.set_cons_zero, List.set_cons_succ]
              refine skip_at (i := 18) rfl rfl (by kernel_rfl) (by kernel_rfl) (by kernel_rfl) (fun _ _ _ h => h) (by rfl) hS ?_
              try simp only [List.setIfInBounds_toArray, List.set_cons_zero, List.set_cons_succ]
              refine skip_at (i := 20) rfl rfl (by kernel_rfl) (by kernel_rfl) (by kernel_rfl) (fun _ _ _ h => h) (by rfl) hS ?_
              try simp only [List.setIfInBounds_toArray, List.set_cons_zero, List.set_cons_succ]
              refine skip_at (i := 21) rfl rfl (by kernel_rfl) (by kernel_rfl) (by kernel_rfl) (fun _ _ _ h => h) (by rfl) hS ?_
              try simp only [List.setIfInBounds_toArray, List.set_cons_zero, List.set_cons_succ]
              refine skip_at (i := 22) rfl rfl (by kernel_rfl) (by kernel_rfl) (by kernel_rfl) (fun _ _ _ h => h) (by rfl) hS ?_
              try simp only [List.setIfInBounds_toArray, List.set_cons_zero, List.set_cons_succ]
              refine skip_at (i := 23) rfl rfl (by kernel_rfl) (by kernel_rfl) (by kernel_rfl) (fun _ _ _ h => h) (by rfl) hS ?_
              try simp only [List.setIfInBounds_toArray, List.set_cons_zero, List.set_cons_succ]
              refine skip_only (i := 19) rfl (by kernel_rfl) (by rfl) hS ?_
              try simp only [Act.put, List.setIfInBounds_toArray, List.set_cons_zero, List.set_cons_succ]
              refine skip_only (i := 24) rfl (by kernel_rfl) (by rfl) hS ?_
              try simp only [Act.put, List.setIfInBounds_toArray, List.set_cons_zero, List.set_cons_succ]
              refine skip_only (i := 25) rfl (by kernel_rfl) (by rfl) hS ?_
              try simp only [Act.put, List.setIfInBounds_toArray, List.set_cons_zero, List.set_cons_succ]
              refine skip_only (i := 26) rfl (by kernel_rfl) (by rfl) hS ?_
              try simp only [Act.put, List.setIfInBounds_toArray, List.set_cons_zero, List.set_cons_succ]
              refine take_at (i := 27) (v := ?_) rfl rfl (by kernel_rfl) (by kernel_rfl) (by kernel_rfl) (fun _ _ _ h => h) (by rfl) hS ?_ ?_
              rotate_left
              · intro w' hw
                obtain _ := hw
                go_simp
                try with_reducible rfl
              try simp only [List.setIfInBounds_toArray, List.set_cons_zero, List.set_cons_succ]
              refine only_at (i := 28) rfl (by kernel_rfl) (by rfl) (fun K hK => ?_)
              go_simp
              refine hK.out _ _ hS (fun hS => ?_)
              clear hK K
              try simp only [Act.put, List.setIfInBounds_toArray, List.set_cons_zero, List.set_cons_succ]
              refine wpAnyH_done (by kernel_rfl) ?_ _
              clear hS
              go_wp2_with fail
              go_ret
              exact ⟨rfl, below_in b3 (below_in b1E k9.drew)⟩
            · have q1 := HB1.out r t
              rw [if_neg ek] at q1
              have q2 := HB2.out r t
              rw [if_neg ek, q1] at q2
              have HQ1 : Hid (MayP (s.give A' m c' gs') r t x ↔ MayP s r t x) := Lib.hid (other_may (s := s) (s1 := s.give A' m c' gs') (fun _ => rfl) (fun _ _ => rfl) HS.out HS1.out q1 x)
              have HQ2 : Hid (MayP (s.give A2 m2 c2 gs2) r t x ↔ MayP s r t x) := Lib.hid (other_may (s := s) (s1 := s.give A2 m2 c2 gs2) (fun _ => rfl) (fun _ _ => rfl) HS.out HS2.out q2 x)
              have Ma := HM1 r t x
              have Mb := HM2 r t x
              have Mc := HM0 r t x
              have Md := HM0 r t x
              obtain ⟨⟨c0, c1, c2'⟩, ⟨g0, g1, g2⟩, ⟨d0, d1, d2⟩, e0, e1, e2⟩ := S3
              clear q1 q2 HM1 HM2 HM0
              clear hz hm hm2 hin hrow' hrow2' aS aS2 aS3 aS4 aS5 aS6 aSE aG2 aG3 aG4 aG5 aG6 aGD aD aD6 HB1 HB2
              have hcs : ((r == g.role) = false ∧ ¬ r = g.role) ∨ (r = g.role ∧ (t == g.table) = false ∧ ¬ t = g.table) := by
                by_cases e : r = g.role
                · exact .inr ⟨e, by simp; exact fun h => ek ⟨e, h⟩, fun h => ek ⟨e, h⟩⟩
                · exact .inl ⟨by simp [e], e⟩
              clear ek
              have k9d : Below wE.heap.size wE w9.drew := k9.drew
              rcases hcs with ⟨y1, y2⟩ | ⟨y0, y1, y2⟩
              all_goals try subst y0
              all_goals
                go_wp2_with fail
                have T0 : (w9.drew.cell? ⟨w.heap.size, 0, none⟩ = some (.int .i64 s.ver) ∧ w9.drew.cell? ⟨w.heap.size, 1, none⟩ = some (.slice s.tA s.tn s.tcap) ∧ w9.drew.cell? ⟨w.heap.size, 2, none⟩ = some (.slice s.gA s.gn s.gcap)) ∧ (w9.drew.cell? ⟨w5.heap.size, 0, none⟩ = some (.int .i64 s.ver) ∧ w9.drew.cell? ⟨w5.heap.size, 1, none⟩ = some (.slice s.tA s.tn s.tcap) ∧ w9.drew.cell? ⟨w5.heap.size, 2, none⟩ = some (.slice A' m c')) ∧ (w9.drew.cell? ⟨w6.heap.size, 0, none⟩ = some (.int .i64 s.ver) ∧ w9.drew.cell? ⟨w6.heap.size, 1, none⟩ = some (.slice s.tA s.tn s.tcap) ∧ w9.drew.cell? ⟨w6.heap.size, 2, none⟩ = some (.slice A2 m2 c2)) := ⟨⟨c0, c1, c2'⟩, ⟨d0, d1, d2⟩, e0, e1, e2⟩
                clear c0 c1 c2' g0 g1 g2 d0 d1 d2 e0 e1 e2
                go_region_held3 (fun w' => (w'.cell? ⟨w.heap.size, 0, none⟩ = some (.int .i64 s.ver) ∧ w'.cell? ⟨w.heap.size, 1, none⟩ = some (.slice s.tA s.tn s.tcap) ∧ w'.cell? ⟨w.heap.size, 2, none⟩ = some (.slice s.gA s.gn s.gcap)) ∧ (w'.cell? ⟨w5.heap.size, 0, none⟩ = some (.int .i64 s.ver) ∧ w'.cell? ⟨w5.heap.size, 1, none⟩ = some (.slice s.tA s.tn s.tcap) ∧ w'.cell? ⟨w5.heap.size, 2, none⟩ = some (.slice A' m c')) ∧ (w'.cell? ⟨w6.heap.size, 0, none⟩ = some (.int .i64 s.ver) ∧ w'.cell? ⟨w6.heap.size, 1, none⟩ = some (.slice s.tA s.tn s.tcap) ∧ w'.cell? ⟨w6.heap.size, 2, none⟩ = some (.slice A2 m2 c2)))
                  (first | exact T0 | exact T1 | exact T2 | exact T3 | exact T4)
                  (first
                    | (go_at_call_of 22 m; refine (Ma _ k9d).mono ?_; rintro e w10 ⟨⟨B1, rfl, hB1⟩, b10⟩; have k10 := below_in k9d b10; have T1 := keep _ k10; have T1 := And.intro T1.1 T1.2.2; have hC1 := hB1 HS1.out; clear hB1)
                    | (go_at_call_of 22 m2; refine (Mb _ k11).mono ?_; rintro e w12 ⟨⟨B3, rfl, hB3⟩, b12x⟩; have k12 := below_in k11 b12x; have T3 := keep _ k12; have T3 := And.intro T3.1 T3.2.2; have hC3 := hB3 HS2.out; clear hB3)
                    | (go_at_call_of 22 s.gn; refine (Mc _ k10).mono ?_; rintro e w11 ⟨⟨B2, rfl, hB2⟩, b11⟩; have k11 := below_in k10 b11; have T2 := keep _ k11; have T2 := And.intro T2.1 T2.2.2; obtain rfl : B1 = B2 := Bool.eq_iff_iff.2 ((hC1.trans HQ1.out).trans (hB2 HS.out).symm); clear hB2 hC1 Mc)
                    | (go_at_call_of 22 s.gn; refine (Md _ k12).mono ?_; rintro e w13 ⟨⟨B4, rfl, hB4⟩, b13x⟩; have k13 := below_in k12 b13x; have T4 := keep _ k13; have T4 := And.intro T4.1 T4.2.2; obtain rfl : B3 = B4 := Bool.eq_iff_iff.2 ((hC3.trans HQ2.out).trans (hB4 HS.out).symm); clear hB4 hC3 Md))
                go_wp2_with fail
                go_ret
                exact ⟨by simp, below_in b3 (below_in b1E k13)⟩
end Go.Proofs.Yteehccklnidofaa
