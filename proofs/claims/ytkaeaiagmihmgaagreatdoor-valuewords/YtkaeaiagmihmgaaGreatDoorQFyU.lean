/- strconv's readFloat: the exponent, base 16. -/
import Derived.Test.YtkaeaiagmihmgaaGreatDoorQFyT
namespace Go.Proofs.YtkaeaiagmihmgaaGreatDoor
open Go.RowKit

set_option maxRecDepth 1000000 in
set_option maxHeartbeats 3200000 in
theorem exp_hex (s : List UInt8) (hs : s.length ≤ 1000) (neg tr us : Bool) (m j nm : Nat) (dp : Int) (r : Rf) (hrm : r.m = m) (hrt : r.tr = tr) (hru : r.us = us) (hj : j ≤ s.length) (hd1 : -10000 ≤ dp) (hd2 : dp ≤ 10000) (w : World) (K : Act → World → Prop) (Q0 : Exit → Act → World → Prop)
    (hR : ∀ (t : Array Value) (v : Value), (results Tryz.f127 t).run Tryz.prog w = .ok v w → RfPost s (.returned v) → Q0 .ret ⟨t, []⟩ w) (HF : Hid (rfM s = rfE s neg true r j dp nm)) {c1 c11 c13 c14 c15 c18 c19 c20 c21 c22 c23 c24 c25 c26 c27 c28 c29 c30 c31 c32 c33 c34 c35 c36 c37 c38 c39 c40 c41 c42 c43 c44 c45 c46 c47 c48 c49 c50 c51 c52 c53 c54 c55 c56 c57 c58 c59 c60 c61 c62 c63 c64 c65 c66 c67 c68 c69 c70 c71 c72 c73 c74 c75 c76 c77 c78 c79 c80 c81 c82 c83 c84 c85 c86 c87 c88 c89 c90 c91 c92 c93 c94 c95 c96 c97 c98 c99 c100 c101 c102 c103 c104 c105 c106 c107 c108 c109 c110 c111 c112 c113 c114 c115 c116 c117 c118 c119 c120 c121 c122 c123 c124 c125 c126 c127 c128 c129 c130 c131 c132 c133 c134 c135 c136 c137 c138 c139 c140 c141 c142 c143 c144 c145 c146 c147 c148 c149 c150 c151 c152 c153 c154 c155 c156 c157 c158 c159 c160 c161 c162 c163 c164 c165 c166 c167 c168 c169 c170 c171 c172 c173 c174 c175 c176 c177 c178 c179 c180 c181 c182 c183 c184 c185 c186 c187 c188 c189 c190 c191 c192 c193 c194 c195 c196 c197 c198 c199 c200 c201 c202 c203 c204 c205 c206 c207 c208 c209 c210 c211 c212 c213 c214 c215 c216 c217 c218 c219 c220 c221 c222 c223 c224 c225 c226 c227 c228 c229 c230 c231 c232 c233 c234 c235 c236 c237 c238 c239 c240 c241 c242 c243 c244 c245 c246 c247 c248 c249 c250 c251 c252 : Value}
    (hK : ∀ {u19 u20 u150 u151 u152 u153 u154 u155 u156 u157 u158 u159 u160 u161 u162 u163 u164 u165 u166 u167 u168 u169 u170 u171 u172 u173 u174 u175 u176 u177 u178 u179 u180 u181 u182 u183 u184 u185 u186 u187 u188 u189 u190 u191 u192 u193 u194 u195 u196 u197 u198 u199 u200 u201 u202 u203 u204 u205 u206 u207 u208 u209 u210 u211 u212 u213 u214 u215 u216 u217 u218 u219 u220 u221 u222 u223 u224 u225 u226 u227 u228 u229 u230 u231 u232 u233 u234 u235 u236 u237 u238 u239 : Value} (i' : Nat) (us' : Bool) (dp' : Int), i' ≤ s.length → -1000000 ≤ dp' → dp' ≤ 1000000 → Hid (rfM s = some ⟨m, expo m dp' nm, neg, tr, true, i', us'⟩) → K ⟨#[.string ⟨s.toArray⟩, c1, .int .u64 m, .int .i64 0, .bool neg, .bool tr, .bool true, .int .i64 i', .bool false, .bool us', .int .u64 16, c11, .int .u8 112, c13, c14, c15, .int .i64 nm, .int .i64 dp', c18, u19, u20, c21, c22, c23, c24, c25, c26, c27, c28, c29, c30, c31, c32, c33, c34, c35, c36, c37, c38, c39, c40, c41, c42, c43, c44, c45, c46, c47, c48, c49, c50, c51, c52, c53, c54, c55, c56, c57, c58, c59, c60, c61, c62, c63, c64, c65, c66, c67, c68, c69, c70, c71, c72, c73, c74, c75, c76, c77, c78, c79, c80, c81, c82, c83, c84, c85, c86, c87, c88, c89, c90, c91, c92, c93, c94, c95, c96, c97, c98, c99, c100, c101, c102, c103, c104, c105, c106, c107, c108, c109, c110, c111, c112, c113, c114, c115, c116, c117, c118, c119, c120, c121, c122, c123, c124, c125, c126, c127, c128, c129, c130, c131, c132, c133, c134, c135, c136, c137, c138, c139, c140, c141, c142, c143, c144, c145, c146, c147, c148, c149, u150, u151, u152, u153, u154, u155, u156, u157, u158, u159, u160, u161, u162, u163, u164, u165, u166, u167, u168, u169, u170, u171, u172, u173, u174, u175, u176, u177, u178, u179, u180, u181, u182, u183, u184, u185, u186, u187, u188, u189, u190, u191, u192, u193, u194, u195, u196, u197, u198, u199, u200, u201, u202, u203, u204, u205, u206, u207, u208, u209, u210, u211, u212, u213, u214, u215, u216, u217, u218, u219, u220, u221, u222, u223, u224, u225, u226, u227, u228, u229, u230, u231, u232, u233, u234, u235, u236, u237, u238, u239, c240, c241, c242, c243, c244, c245, c246, c247, c248, c249, c250, c251, c252], []⟩ w) :
    Code.wp Tryz.prog rfExp (Exit.then K Q0) ⟨#[.string ⟨s.toArray⟩, c1, .int .u64 m, .int .i64 0, .bool neg, .bool tr, .bool true, .int .i64 j, .bool false, .bool us, .int .u64 16, c11, .int .u8 112, c13, c14, c15, .int .i64 nm, .int .i64 dp, c18, c19, c20, c21, c22, c23, c24, c25, c26, c27, c28, c29, c30, c31, c32, c33, c34, c35, c36, c37, c38, c39, c40, c41, c42, c43, c44, c45, c46, c47, c48, c49, c50, c51, c52, c53, c54, c55, c56, c57, c58, c59, c60, c61, c62, c63, c64, c65, c66, c67, c68, c69, c70, c71, c72, c73, c74, c75, c76, c77, c78, c79, c80, c81, c82, c83, c84, c85, c86, c87, c88, c89, c90, c91, c92, c93, c94, c95, c96, c97, c98, c99, c100, c101, c102, c103, c104, c105, c106, c107, c108, c109, c110, c111, c112, c113, c114, c115, c116, c117, c118, c119, c120, c121, c122, c123, c124, c125, c126, c127, c128, c129, c130, c131, c132, c133, c134, c135, c136, c137, c138, c139, c140, c141, c142, c143, c144, c145, c146, c147, c148, c149, c150, c151, c152, c153, c154, c155, c156, c157, c158, c159, c160, c161, c162, c163, c164, c165, c166, c167, c168, c169, c170, c171, c172, c173, c174, c175, c176, c177, c178, c179, c180, c181, c182, c183, c184, c185, c186, c187, c188, c189, c190, c191, c192, c193, c194, c195, c196, c197, c198, c199, c200, c201, c202, c203, c204, c205, c206, c207, c208, c209, c210, c211, c212, c213, c214, c215, c216, c217, c218, c219, c220, c221, c222, c223, c224, c225, c226, c227, c228, c229, c230, c231, c232, c233, c234, c235, c236, c237, c238, c239, c240, c241, c242, c243, c244, c245, c246, c247, c248, c249, c250, c251, c252], []⟩ w := by
  conv => arg 2; whnf
  by_cases hlt : j < s.length
  · have hix := fun (ww : World) => run_index_list (P := Tryz.prog) 9 s j j _ Tryz.underlying9 rfl hlt rfl ww
    have hb := (s.getD j 0).toNat_lt
    obtain ⟨d, hd⟩ : ∃ d, (s.getD j 0).toNat = d := ⟨_, rfl⟩
    rw [hd] at hix hb
    have hlow := lower_nat d hb
    obtain ⟨l, hl⟩ : ∃ l, low5 d = l := ⟨_, rfl⟩
    rw [hl] at hlow
    have t1 : decide ((j : Int) < (s.length : Int)) = true := by simp; omega
    by_cases hch : l = 112
    · have t2 : ((l : Int) == 112) = true := by simp; omega
      have hE : rfE s neg true r j dp nm = if s.length ≤ j + 1 then none else
          (fun (c : Nat) => (fun (q : Nat) => if s.length ≤ q ∨ (s.getD q 0).toNat < 48 ∨ 57 < (s.getD q 0).toNat then none else
            some ⟨r.m, expo r.m (dp + (exRun 0 r.us (s.drop q)).1 * (if c = 45 then -1 else 1)) nm, neg, r.tr, true, q + (exRun 0 r.us (s.drop q)).2.2, (exRun 0 r.us (s.drop q)).2.1⟩)
            (if c = 43 ∨ c = 45 then j + 2 else j + 1)) (s.getD (j + 1) 0).toNat := by
        unfold rfE
        rw [if_pos ⟨hlt, by rw [hd, hl, hch]; rfl⟩]
      rw [hrm, hrt, hru] at hE
      clear hd hl hch hb
      by_cases h1 : s.length ≤ j + 1
      · rw [if_pos h1] at hE
        have HN := Lib.hid (HF.out.trans hE)
        have t3 : decide ((s.length : Int) ≤ (j : Int) + 1) = true := by simp; omega
        clear hE
        as_aux_lemma =>
          go_wp2_with (go_at_call 88; refine (Tryz.internal_strconv_lower _ _).mono ?_; rintro e w' ⟨rfl, hw'⟩; obtain rfl : w = w' := hw'.symm)
          exact hR _ _ (results_seven rfl _ _ _) (.inl ⟨HN.out, _, _, _, _, _, _, rfl⟩)
      · rw [if_neg h1] at hE
        have t3 : decide ((s.length : Int) ≤ (j : Int) + 1) = false := by simp; omega
        have hi1 := fun (ww : World) => run_index_list (P := Tryz.prog) 9 s ((j : Int) + 1) (j + 1) _ Tryz.underlying9 rfl (by omega) rfl ww
        obtain ⟨d2, hd2e⟩ : ∃ d2, (s.getD (j + 1) 0).toNat = d2 := ⟨_, rfl⟩
        rw [hd2e] at hi1 hE
        clear hd2e
        have HE := Lib.hid (HF.out.trans hE)
        clear hE HF
        go_upto_block 4 with (go_at_call 88; refine (Tryz.internal_strconv_lower _ _).mono ?_; rintro e w' ⟨rfl, hw'⟩; obtain rfl : w = w' := hw'.symm)
        go_cut [7, 19] from 150 to 178 (fun ii sg wc => ∃ (q : Nat) (z : Int), ii = .int .i64 q ∧ sg = .int .i64 z ∧ q ≤ s.length ∧ (z = 1 ∨ z = -1) ∧ Hid (rfM s = if s.length ≤ q ∨ (s.getD q 0).toNat < 48 ∨ 57 < (s.getD q 0).toNat then none else some ⟨m, expo m (dp + (exRun 0 us (s.drop q)).1 * z) nm, neg, tr, true, q + (exRun 0 us (s.drop q)).2.2, (exRun 0 us (s.drop q)).2.1⟩) ∧ w = wc)
        case first =>
          by_cases p1 : d2 = 43
          · subst p1
            go_wp2_with fail
            go_meet
            case rel => exact ⟨j + 2, 1, rfl, rfl, by omega, .inl rfl, HE, rfl⟩
          · have e1 : ((d2 : Int) == 43) = false := by simp; omega
            by_cases p2 : d2 = 45
            · subst p2
              go_wp2_with fail
              go_meet
              case rel => exact ⟨j + 2, -1, rfl, rfl, by omega, .inr rfl, HE, rfl⟩
            · have e2 : ((d2 : Int) == 45) = false := by simp; omega
              have HE2 : Hid (rfM s = if s.length ≤ j + 1 ∨ (s.getD (j + 1) 0).toNat < 48 ∨ 57 < (s.getD (j + 1) 0).toNat then none else some ⟨m, expo m (dp + (exRun 0 us (s.drop (j + 1))).1 * 1) nm, neg, tr, true, j + 1 + (exRun 0 us (s.drop (j + 1))).2.2, (exRun 0 us (s.drop (j + 1))).2.1⟩) := by
                have h := HE.out
                simp only [if_neg (show ¬ (d2 = 43 ∨ d2 = 45) by omega), if_neg p2] at h
                exact h
              go_wp2_with fail
              go_meet
              case rel => exact ⟨j + 1, 1, rfl, rfl, by omega, .inl rfl, HE2, rfl⟩
        case rest =>
          clear HE
          obtain ⟨q, z, rfl, rfl, hq, hsg, HE, rfl⟩ := hcut
          by_cases h2 : s.length ≤ q
          · have HN := Lib.hid (HE.out.trans (if_pos (.inl h2)))
            have t4 : decide ((s.length : Int) ≤ (q : Int)) = true := by simp; omega
            as_aux_lemma =>
              go_wp2_with fail
              exact hR _ _ (results_seven rfl _ _ _) (.inl ⟨HN.out, _, _, _, _, _, _, rfl⟩)
          · have t4 : decide ((s.length : Int) ≤ (q : Int)) = false := by simp; omega
            have hiq := fun (ww : World) => run_index_list (P := Tryz.prog) 9 s q q _ Tryz.underlying9 rfl (by omega) rfl ww
            have HE3 := HE
            obtain ⟨d3, hd3⟩ : ∃ d3, (s.getD q 0).toNat = d3 := ⟨_, rfl⟩
            have HD3 := Lib.hid hd3
            rw [hd3] at hiq HE3
            clear hd3 HE
            by_cases h3 : d3 < 48
            · have HN := Lib.hid (HE3.out.trans (if_pos (.inr (.inl h3))))
              have t5 : decide ((d3 : Int) < 48) = true := by simp; omega
              as_aux_lemma =>
                go_wp2_with fail
                exact hR _ _ (results_seven rfl _ _ _) (.inl ⟨HN.out, _, _, _, _, _, _, rfl⟩)
            · have t5 : decide ((d3 : Int) < 48) = false := by simp; omega
              by_cases h4 : 57 < d3
              · have HN := Lib.hid (HE3.out.trans (if_pos (.inr (.inr h4))))
                have t6 : decide ((57 : Int) < (d3 : Int)) = true := by simp; omega
                as_aux_lemma =>
                  go_wp2_with fail
                  exact hR _ _ (results_seven rfl _ _ _) (.inl ⟨HN.out, _, _, _, _, _, _, rfl⟩)
              · have t6 : decide ((57 : Int) < (d3 : Int)) = false := by simp; omega
                have HG := Lib.hid (HE3.out.trans (if_neg (by rintro (h | h | h); exact h2 h; exact h3 h; exact h4 h)))
                clear HE3 HD3
                go_wp2_with fail
                clear hiq t4 t5 t6 h2 h3 h4
                go_loopw [7, 9, 20] (fun ii uu ee wr => ∃ (i e : Nat) (u : Bool), ii = .int .i64 i ∧ uu = .bool u ∧ ee = .int .i64 e ∧ q ≤ i ∧ i ≤ s.length ∧ e < 100000 ∧ Hid (exRun 0 us (s.drop q) = ((exRun e u (s.drop i)).1, (exRun e u (s.drop i)).2.1, i - q + (exRun e u (s.drop i)).2.2)) ∧ w = wr) (fun ii _ _ _ => (s.length - intOf ii).toNat)
                case atStart => exact ⟨q, 0, us, rfl, rfl, rfl, Nat.le_refl _, hq, by decide, (by show _ = _; rw [Nat.sub_self, Nat.zero_add]), rfl⟩
                case round =>
                  obtain ⟨i, e, u, rfl, rfl, rfl, hqi, hi, he, HX, rfl⟩ := hrel
                  by_cases hil : i < s.length
                  · have hii := fun (ww : World) => run_index_list (P := Tryz.prog) 9 s i i _ Tryz.underlying9 rfl hil rfl ww
                    have b1 : decide ((i : Int) < (s.length : Int)) = true := by simp; omega
                    have hdb := (s.getD i 0).toNat_lt
                    obtain ⟨d4, hd4⟩ : ∃ d4, (s.getD i 0).toNat = d4 := ⟨_, rfl⟩
                    have HD := Lib.hid hd4
                    rw [hd4] at hii hdb
                    clear hd4
                    by_cases g1 : 48 ≤ d4 ∧ d4 ≤ 57
                    · have b2 : decide ((48 : Int) ≤ (d4 : Int)) = true := by simp; omega
                      have b3 : decide ((d4 : Int) ≤ 57) = true := by simp; omega
                      have b4 : ((d4 : Int) == 95) = false := by simp; omega
                      have hat := ex_dig (e := e) (u := u) hil (by rw [HD.out]; exact g1)
                      rw [HD.out] at hat
                      by_cases g2 : e < 10000
                      · have b5 : decide ((e : Int) < 10000) = true := by simp; omega
                        rw [if_pos g2] at hat
                        have HX2 := Lib.hid (ex_next HX.out hat hqi)
                        clear hat
                        as_aux_lemma =>
                          go_wp2_with fail
                          refine ⟨⟨i + 1, e * 10 + (d4 - 48), u, by go_num, rfl, ?_, by omega, by omega, by omega, HX2, trivial⟩, by simp [intOf]; omega⟩
                          exact congrArg (Value.int .i64) (by omega)
                      · have b5 : decide ((e : Int) < 10000) = false := by simp; omega
                        rw [if_neg g2] at hat
                        have HX2 := Lib.hid (ex_next HX.out hat hqi)
                        clear hat
                        as_aux_lemma =>
                          go_wp2_with fail
                          exact ⟨⟨i + 1, e, u, by go_num, rfl, rfl, by omega, by omega, he, HX2, trivial⟩, by simp [intOf]; omega⟩
                    · by_cases g3 : d4 = 95
                      · have b2 : decide ((48 : Int) ≤ (d4 : Int)) = true := by simp; omega
                        have b3 : decide ((d4 : Int) ≤ 57) = false := by simp; omega
                        have b4 : ((d4 : Int) == 95) = true := by simp; omega
                        have hat := ex_us (e := e) (u := u) hil (by rw [HD.out]; exact g3)
                        have HX2 := Lib.hid (ex_next HX.out hat hqi)
                        clear hat g1 g3
                        as_aux_lemma =>
                          go_wp2_with fail
                          exact ⟨⟨i + 1, e, true, by go_num, rfl, rfl, by omega, by omega, he, HX2, trivial⟩, by simp [intOf]; omega⟩
                      · have b4 : ((d4 : Int) == 95) = false := by simp; omega
                        have hno : ¬ (48 ≤ (s.getD i 0).toNat ∧ (s.getD i 0).toNat ≤ 57) ∧ (s.getD i 0).toNat ≠ 95 := by rw [HD.out]; exact ⟨g1, g3⟩
                        by_cases g4 : 48 ≤ d4
                        · have b2 : decide ((48 : Int) ≤ (d4 : Int)) = true := by simp; omega
                          have b3 : decide ((d4 : Int) ≤ 57) = false := by simp; omega
                          as_aux_lemma =>
                            have hst := ex_stop (s := s) (e := e) (u := u) (.inr hno)
                            have hq := HX.out
                            rw [hst] at hq
                            have HQ := Lib.hid (HG.out.trans (congrArg some (exp_out hq hsg hqi)))
                            clear hst hq
                            rcases hsg with rfl | rfl
                            · go_wp2_with fail
                              refine hK i u (dp + e) hi (by omega) (by omega) ?_
                              have h := HQ.out
                              rw [Int.mul_one] at h
                              exact h
                            · go_wp2_with fail
                              refine hK i u (dp + -e) hi (by omega) (by omega) ?_
                              have h := HQ.out
                              rw [Int.mul_neg, Int.mul_one] at h
                              exact h
                        · have b2 : decide ((48 : Int) ≤ (d4 : Int)) = false := by simp; omega
                          as_aux_lemma =>
                            have hst := ex_stop (s := s) (e := e) (u := u) (.inr hno)
                            have hq := HX.out
                            rw [hst] at hq
                            have HQ := Lib.hid (HG.out.trans (congrArg some (exp_out hq hsg hqi)))
                            clear hst hq
                            rcases hsg with rfl | rfl
                            · go_wp2_with fail
                              refine hK i u (dp + e) hi (by omega) (by omega) ?_
                              have h := HQ.out
                              rw [Int.mul_one] at h
                              exact h
                            · go_wp2_with fail
                              refine hK i u (dp + -e) hi (by omega) (by omega) ?_
                              have h := HQ.out
                              rw [Int.mul_neg, Int.mul_one] at h
                              exact h
                  · obtain rfl : s.length = i := by omega
                    as_aux_lemma =>
                      have hst := ex_stop (s := s) (e := e) (u := u) (.inl (Nat.le_refl s.length))
                      have hq := HX.out
                      rw [hst] at hq
                      have HQ := Lib.hid (HG.out.trans (congrArg some (exp_out hq hsg hqi)))
                      clear hst hq
                      rcases hsg with rfl | rfl
                      · go_wp2_with fail
                        refine hK s.length u (dp + e) hi (by omega) (by omega) ?_
                        have h := HQ.out
                        rw [Int.mul_one] at h
                        exact h
                      · go_wp2_with fail
                        refine hK s.length u (dp + -e) hi (by omega) (by omega) ?_
                        have h := HQ.out
                        rw [Int.mul_neg, Int.mul_one] at h
                        exact h
    · have t2 : ((l : Int) == 112) = false := by simp; omega
      have hno : ¬ (j < s.length ∧ low5 (s.getD j 0).toNat = if true = true then 112 else 101) := by
        rintro ⟨_, h⟩
        rw [hd, hl] at h
        exact hch h
      have HN := Lib.hid (HF.out.trans (show rfE s neg true r j dp nm = none by unfold rfE; rw [if_neg (fun h => hno h), if_pos rfl]))
      clear hd hl hch hb
      as_aux_lemma =>
        go_wp2_with (go_at_call 88; refine (Tryz.internal_strconv_lower _ _).mono ?_; rintro e w' ⟨rfl, hw'⟩; obtain rfl : w = w' := hw'.symm)
        exact hR _ _ (results_seven rfl _ _ _) (.inl ⟨HN.out, _, _, _, _, _, _, rfl⟩)
  · have t1 : decide ((j : Int) < (s.length : Int)) = false := by simp; omega
    have hno : ¬ (j < s.length ∧ low5 (s.getD j 0).toNat = if true = true then 112 else 101) := fun h => hlt h.1
    have HN := Lib.hid (HF.out.trans (show rfE s neg true r j dp nm = none by unfold rfE; rw [if_neg (fun h => hno h), if_pos rfl]))
    as_aux_lemma =>
      go_wp2_with fail
      exact hR _ _ (results_seven rfl _ _ _) (.inl ⟨HN.out, _, _, _, _, _, _, rfl⟩)
end Go.Proofs.YtkaeaiagmihmgaaGreatDoor
