/- The walk of the law GrantPuts. -/
import Derived.Test.YteehccklnidofaaGrS
import Derived.Test.YteehccklnidofaaGrO
import Derived.Test.YteehccklnidofaaGrT
namespace Go.Proofs.Yteehccklnidofaa
open Go.RowKit

/-- What Put makes of a sorted list, in the law's own cases. -/
def PutLaw (gs : List Gr) (g : Gr) (er : Int) (gs' : List Gr) : Prop :=
  (goodG g = false ∧ er = 1 ∧ gs' = []) ∨ (goodG g = true ∧ bitsG g.role g.table gs = 0 ∧ 64 ≤ gs.length ∧ er = 3 ∧ gs' = []) ∨
  (goodG g = true ∧ ¬ (bitsG g.role g.table gs = 0 ∧ 64 ≤ gs.length) ∧ er = 0 ∧ SortedG gs' ∧ ∀ r t, bitsG r t gs' = if r = g.role ∧ t = g.table then orI (bitsG g.role g.table gs) g.bits else bitsG r t gs)
theorem put_law {gs gs' : List Gr} {g : Gr} {er : Int} (hs : SortedG gs) (h : PutR gs g er gs') : PutLaw gs g er gs' := by
  rcases h with ⟨h1, h2, h3⟩ | ⟨hg, i, b, hp, h⟩
  · exact .inl ⟨h1, h2, h3⟩
  have spec : er = 0 → SortedG gs' ∧ ∀ r t, bitsG r t gs' = if r = g.role ∧ t = g.table then orI (bitsG g.role g.table gs) g.bits else bitsG r t gs := fun he => by
    subst he
    obtain ⟨k1, k2⟩ := put_spec hs (.inr ⟨hg, i, b, hp, h⟩)
    refine ⟨k1, fun r t => ?_⟩
    rw [k2]
    by_cases e : r = g.role ∧ t = g.table
    · rw [if_pos e, if_pos e, e.1, e.2]
    · rw [if_neg e, if_neg e]
  rcases h with ⟨rfl, h1, h2, h3⟩ | ⟨_, h1, h2, _⟩ | ⟨rfl, h2, _⟩
  · refine .inr (.inl ⟨hg, ?_, h1, h2, h3⟩)
    exact bits_none fun x hx hm => by
      obtain ⟨j, hj, rfl⟩ := List.getElem_of_mem hx
      refine place_none hp hs j hj ?_
      rw [atG, List.getD_eq_getElem?_getD, List.getElem?_eq_getElem hj]
      exact hm
  · obtain ⟨k1, k2⟩ := spec h2
    exact .inr (.inr ⟨hg, fun h => by omega, h2, k1, k2⟩)
  · obtain ⟨k1, k2⟩ := spec h2
    refine .inr (.inr ⟨hg, fun h => ?_, h2, k1, k2⟩)
    obtain ⟨hi, hr, ht⟩ := hp.yes rfl
    obtain ⟨-, hgd, hpw⟩ := (sorted_pw gs).1 hs
    have hmi : atG gs i ∈ gs := getD_in2 hi
    have h1 := bits_mem hpw hmi
    rw [hr, ht, h.1] at h1
    have := (good_parts (hgd _ hmi)).2.2.1
    omega

set_option maxRecDepth 100000 in
set_option maxHeartbeats 3200000 in
theorem grantPuts_main (A : Option Addr) (n cap : Nat) (gs : List Gr) (g : Gr) (w : World) (hr : RowG w A n gs) (hn : n ≤ maxLen) (hcap : n ≤ cap) (hg : g.Ok) :
    Calls Try.prog 3 #[.slice A n cap, g.val] w fun e w' => e = .returned (.bool true) ∧ Below w.heap.size w w' := by
  have b0 := below_box w (.cells #[.int .i64 g.role, .string ⟨g.table.toArray⟩, .int .i64 g.bits] 24)
  have aG := At.fresh w 24 #[.int .i64 g.role, .string ⟨g.table.toArray⟩, .int .i64 g.bits]
  have hgl := hr.1
  have hin := fun w' (k : Below w.heap.size w w') => hr.below k
  have hGr := fun w' (k : Below w.heap.size w w') => ggreat_any A n cap gs w' (hin w' k) hn
  have hgt := hg.table
  unfold maxLen at hgt
  simp only [Gr.val]
  go_enter Try.func3, Try.ntmps3
  go_wp2_with fail
  generalize (w.alloc (.cells #[.int .i64 g.role, .string ⟨g.table.toArray⟩, .int .i64 g.bits] 24)) = wb at *
  refine (alive_any _).mono ?_
  rintro e w1 ⟨rfl, b1⟩
  have k1 := below_in b0 b1
  have aG1 := aG.below b1 aG.lt
  go_wp2_with fail
  refine (hGr _ k1).mono ?_
  rintro e w2 ⟨⟨B, rfl⟩, b2⟩
  have k2 := below_in k1 b2
  have aG2 := aG1.below b2 aG1.lt
  obtain ⟨p0, p1, p2⟩ := aG2.tri0
  cases B with
  | true =>
    go_wp2_with fail
    go_ret
    exact ⟨rfl, k2⟩
  | false =>
    by_cases h3 : 200 < g.table.length
    · have h3' : decide ((200 : Int) < (g.table.length : Int)) = true := by simp; omega
      go_wp2_with fail
      go_ret
      exact ⟨rfl, k2⟩
    · have h3' : decide ((200 : Int) < (g.table.length : Int)) = false := by simp; omega
      have h3n : ¬ ((200 : Int) < (g.table.length : Int)) := by omega
      have hS1 := fun w' (k : Below w.heap.size w w') => rsorted_any A n cap gs w' (hin w' k) hn hcap
      obtain ⟨D, hD⟩ : ∃ D, decide (SortedG gs) = D := ⟨_, rfl⟩
      rw [hD] at hS1
      have HD := Lib.hid hD
      clear hD hGr h3
      go_wp2_with fail
      refine (hS1 _ k2).mono ?_
      rintro e w3 ⟨rfl, b3⟩
      have k3 := below_in k2 b3
      have aG3 := aG2.below b3 aG2.lt
      clear hS1 p0 p1 p2
      cases D with
      | false =>
        go_wp2_with fail
        go_ret
        exact ⟨rfl, k3⟩
      | true =>
        have hsrt := of_decide_eq_true HD.out
        have hn64 : n ≤ 64 := by have := hsrt.1; omega
        have HS := Lib.hid hsrt
        clear hsrt HD
        obtain ⟨p0, p1, p2⟩ := aG3.tri0
        have hP := gput_any A n cap gs g w3 (hin _ k3) (by omega) hg
        unfold Gr.val at hP
        go_wp2_with fail
        refine hP.mono ?_
        rintro e w4 ⟨⟨v, er, gs', rfl, ho, hR⟩, b4⟩
        have k4 := below_in k3 b4
        have aG4 := aG3.below b4 aG3.lt
        have hL := put_law HS.out hR
        clear hP hR p0 p1 p2
        obtain ⟨p0, p1, p2⟩ := aG4.tri0
        have hB := rbits_any A n cap gs g.role g.table w4 (hin _ k4) hn
        go_wp2_with fail
        refine hB.mono ?_
        rintro e w5 ⟨rfl, b5⟩
        have k5 := below_in k4 b5
        have aG5 := aG4.below b5 aG4.lt
        clear hB p0 p1 p2
        obtain ⟨p0, p1, p2⟩ := aG5.tri0
        have hgd := rgoodG_any g w5 hg.table
        unfold Gr.val at hgd
        rcases hL with ⟨h1, rfl, rfl⟩ | ⟨h1, h0, h64, rfl, rfl⟩ | ⟨h1, h0, rfl, hs', hbits⟩
        · rw [h1] at hgd
          obtain ⟨A', c', rfl, -, -⟩ := own_rowG ho (fun _ h => by cases h)
          go_wp2_with fail
          refine hgd.mono ?_
          rintro e w6 ⟨rfl, b6⟩
          have k6 := below_in k5 b6
          go_wp2_with fail
          go_ret
          exact ⟨rfl, k6⟩
        · rw [h1] at hgd
          obtain ⟨A', c', rfl, -, -⟩ := own_rowG ho (fun _ h => by cases h)
          rw [h0]
          have h64' : (64 : Int) ≤ (n : Int) := by omega
          go_wp2_with fail
          refine hgd.mono ?_
          rintro e w6 ⟨rfl, b6⟩
          have k6 := below_in k5 b6
          go_wp2_with fail
          go_ret
          exact ⟨rfl, k6⟩
        · rw [h1] at hgd
          have hok' : ∀ x ∈ gs', x.Ok := fun x hx => ok_of_good (((sorted_pw _).1 hs').2.1 x hx)
          obtain ⟨A', c', rfl, hrow, hc'⟩ := own_rowG ho hok'
          have hl' : gs'.length ≤ 64 := hs'.1
          have hrow' := fun w' (k : Below w4.heap.size w4 w') => hrow.below k
          have HS' := Lib.hid hs'
          have HB := Lib.hid hbits
          obtain ⟨had, hhad⟩ : ∃ had, bitsG g.role g.table gs = had := ⟨_, rfl⟩
          rw [hhad] at h0 ⊢
          have HH := Lib.hid hhad
          have HG := Lib.hid h1
          obtain ⟨m, hm⟩ : ∃ m, gs'.length = m := ⟨_, rfl⟩
          rw [hm] at hrow hrow' hc' hl' ⊢
          clear hhad h1 hs' hbits hok' ho
          have b45 : Below w4.heap.size w4 w5 := b5
          have hcz : ∃ b : Bool, ((had = 0 ∧ b = true ∧ decide ((64 : Int) ≤ (n : Int)) = false ∧ ¬ ((64 : Int) ≤ (n : Int))) ∨ ((had == 0) = false ∧ ¬ had = 0 ∧ b = false)) := by
            by_cases hz : had = 0
            · exact ⟨true, .inl ⟨hz, rfl, by simp; omega, by omega⟩⟩
            · exact ⟨false, .inr ⟨by simp [hz], hz, rfl⟩⟩
          obtain ⟨-, ⟨hz, -, h64, h64n⟩ | ⟨hz2, hz, -⟩⟩ := hcz
          all_goals try subst hz
          all_goals clear h0
          all_goals
            go_wp2_with fail
            refine hgd.mono ?_
            rintro e w6 ⟨rfl, b6⟩
            have k6 := below_in k5 b6
            have j6 := below_in b45 b6
            clear hgd p0 p1 p2
            go_wp2_with fail
            have hSr := rsorted_any A' m c' gs' w6 (hrow' _ j6) (by unfold maxLen; omega) hc'
            rw [decide_eq_true HS'.out] at hSr
            refine hSr.mono ?_
            rintro e w7 ⟨rfl, b7⟩
            have k7 := below_in k6 b7
            have j7 := below_in j6 b7
            clear hSr
            go_wp2_with fail
            have hSg := gsorted_any A' m c' gs' w7 (hrow' _ j7) (by unfold maxLen; omega)
            rw [decide_eq_true HS'.out] at hSg
            refine hSg.mono ?_
            rintro e w8 ⟨rfl, b8⟩
            have k8 := below_in k7 b8
            have j8 := below_in j7 b8
            clear hSg
            have hmade : (w8.alloc (.cells #[] 24)).ownsRow w8.heap.size 24 3 (.slice (some ⟨w8.heap.size, 0, none⟩) 0 0) 0 [] := World.ownsRow_made w8 #[] 0 (Nat.le_refl _) (by unfold maxLen; omega) rfl
            have ha := below_box w8 (.cells #[] 24)
            have r9 := hin _ (below_in k8 ha)
            go_wp2_with (at_builtin; refine wp_append_rowG rfl (.tmp 74) (.tmp 75) rfl hmade A n cap gs r9 rfl rfl (by omega) ha.size ?_)
            intro v1 w9 ho1 hg1
            have b9 : Below w8.heap.size w8 w9 := ha.grown hg1 ha.size (fun k hk => by simp [Value.ownBlock] at hk; omega)
            have k9 := below_in k8 b9
            have j9 := below_in j8 b9
            have HO := Lib.hid ho1
            have r9' := hrow' _ j9
            clear hmade ha r9 ho1 hg1
            go_wp2_with (at_builtin; refine wp_append_rowG rfl (.tmp 76) (.tmp 77) rfl HO.out A' m c' gs' r9' rfl rfl (by omega) b9.size ?_)
            intro v2 wX ho2 hg2
            have bX : Below w8.heap.size w8 wX := b9.grown hg2 b9.size (fun k hk => (HO.out.lt k hk).1)
            have kX := below_in k8 bX
            have jX := below_in j8 bX
            have hml : (gs ++ gs').length = n + m := by rw [List.length_append, hgl, hm]
            obtain ⟨A2, c2, rfl, hM, -⟩ : ∃ A2 c2, v2 = .slice A2 (n + m) c2 ∧ RowG wX A2 (n + m) (gs ++ gs') ∧ n + m ≤ c2 := by
              have ho3 : wX.ownsRow w8.heap.size 24 3 v2 (gs ++ gs').length ((gs ++ gs').flatMap Gr.cs) := by
                rw [hml, List.flatMap_append]
                exact ho2
              have := own_rowG ho3 (fun x hx => by
                rcases List.mem_append.1 hx with h | h
                · exact hr.2.1 x h
                · exact r9'.2.1 x h)
              rw [hml] at this
              exact this
            clear HO r9' ho2 hg2 b9 k9 j9
            have aGX := aG5.below (below_in (below_in (below_in b6 b7) b8) bX) aG5.lt
            go_wp2_with fail
            go_loopw [80] (fun iv wr => ∃ k : Nat, k ≤ n + m ∧ iv = .int .i64 k ∧ Below wX.heap.size wX wr) (fun iv _ => n + m - (intOf iv).toNat)
            case atStart => exact ⟨0, by omega, rfl, Below.refl _ _⟩
            case round =>
              obtain ⟨k, hk, rfl, bR⟩ := hrel
              by_cases hlt : k < n + m
              · have RM := hM.below bR
                obtain ⟨bm, om, rfl, hlm, hcm⟩ := RM.2.2 (by omega)
                obtain ⟨u0, u1, u2⟩ := hcm k hlt
                generalize (gs ++ gs').getD k default = x at u0 u1 u2
                clear RM hcm
                obtain ⟨V, hV⟩ : ∃ V, bitsG x.role x.table gs = V := ⟨_, rfl⟩
                obtain ⟨V', hV'⟩ : ∃ V', bitsG x.role x.table gs' = V' := ⟨_, rfl⟩
                have hR1 := fun w' (b : Below w.heap.size w w') => rbits_any A n cap gs x.role x.table w' (hin _ b) hn
                have hR2 := fun w' (b : Below w4.heap.size w4 w') => rbits_any A' m c' gs' x.role x.table w' (hrow' _ b) (by unfold maxLen; omega)
                have hE := HB.out x.role x.table
                rw [HH.out] at hE
                rw [hV, hV'] at hE
                rw [hV] at hR1
                rw [hV'] at hR2
                clear hV hV'
                obtain ⟨xr, xt, xb⟩ := x
                simp only at u0 u1 u2 hR1 hR2 hE
                have f0 := below_box wr (.cells #[.int .i64 xr, .string ⟨xt.toArray⟩, .int .i64 xb] 24)
                have aX := At.fresh wr 24 #[.int .i64 xr, .string ⟨xt.toArray⟩, .int .i64 xb]
                have fX := below_in bR f0
                have fk := below_in kX fX
                have fj := below_in jX fX
                have fg := aGX.below fX aGX.lt
                go_wp2_with fail
                refine (hR1 _ fk).mono ?_
                rintro e wA ⟨rfl, bA⟩
                have fkA := below_in fk bA
                have fjA := below_in fj bA
                have fXA := below_in fX bA
                have fgA := fg.below bA fg.lt
                have aXA := aX.below bA aX.lt
                clear hR1 u0 u1 u2 f0 fX fk fj
                obtain ⟨u0, u1, u2⟩ := aXA.tri0
                obtain ⟨p0, p1, p2⟩ := fgA.tri0
                have R2 := hR2 _ fjA
                clear hR2
                by_cases e1 : xr = g.role
                · by_cases e2 : xt = g.table
                  · subst e1 e2
                    rw [if_pos ⟨rfl, rfl⟩] at hE
                    unfold orI at hE
                    subst hE
                    go_wp2_with fail
                    refine R2.mono ?_
                    rintro e wB ⟨rfl, bB⟩
                    have fXB := below_in fXA bB
                    go_wp2_with fail
                    exact ⟨⟨k + 1, by omega, by go_num, fXB⟩, by simp [intOf]; omega⟩
                  · have e2' : (xt == g.table) = false := by simp [e2]
                    rw [if_neg (fun h => e2 h.2)] at hE
                    subst hE
                    subst e1
                    go_wp2_with fail
                    refine R2.mono ?_
                    rintro e wB ⟨rfl, bB⟩
                    have fXB := below_in fXA bB
                    go_wp2_with fail
                    exact ⟨⟨k + 1, by omega, by go_num, fXB⟩, by simp [intOf]; omega⟩
                · have e1' : (xr == g.role) = false := by simp [e1]
                  rw [if_neg (fun h => e1 h.1)] at hE
                  subst hE
                  go_wp2_with fail
                  refine R2.mono ?_
                  rintro e wB ⟨rfl, bB⟩
                  have fXB := below_in fXA bB
                  go_wp2_with fail
                  exact ⟨⟨k + 1, by omega, by go_num, fXB⟩, by simp [intOf]; omega⟩
              · obtain rfl : k = n + m := by omega
                have fk := below_in kX bR
                have fj := below_in jX bR
                have fgA := aGX.below bR aGX.lt
                obtain ⟨p0, p1, p2⟩ := fgA.tri0
                have hE := HB.out g.role g.table
                rw [if_pos ⟨rfl, rfl⟩, HH.out] at hE
                have R2 := fun w2 (b : Below wr.heap.size wr w2) => rbits_any A' m c' gs' g.role g.table w2 (hrow' _ (below_in fj b)) (by unfold maxLen; omega)
                rw [hE] at R2
                unfold orI at R2
                clear hE
                have hd : Below wr.heap.size wr wr.drew := (Below.refl _ _).drew
                have S0 := (fgA.below hd fgA.lt).tri0
                have fkd := below_in fk hd
                clear p0 p1 p2
                go_wp2_with fail
                go_region_held3 (fun w' => w'.cell? ⟨w.heap.size, 0, none⟩ = some (.int .i64 g.role) ∧ w'.cell? ⟨w.heap.size, 1, none⟩ = some (.string ⟨g.table.toArray⟩) ∧ w'.cell? ⟨w.heap.size, 2, none⟩ = some (.int .i64 g.bits))
                  (first | exact S0 | exact S1)
                  ((go_at_call 12; refine (R2 wr.drew hd).mono ?_; rintro e wA ⟨rfl, bA⟩; have S1 := ((fgA.below hd fgA.lt).below bA (fgA.below hd fgA.lt).lt).tri0; have fkA := below_in fkd bA))
                all_goals
                  go_wp2_with fail
                  go_ret
                  exact ⟨rfl, fkA⟩
end Go.Proofs.Yteehccklnidofaa
