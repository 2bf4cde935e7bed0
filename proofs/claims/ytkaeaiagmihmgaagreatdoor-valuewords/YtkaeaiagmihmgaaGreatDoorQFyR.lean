/- strconv's underscoreOK returns, whatever the text. -/
/- strconv's readFloat: its end, behind the exponent. -/
import Derived.Test.YtkaeaiagmihmgaaGreatDoorQFyO
namespace Go.Proofs.YtkaeaiagmihmgaaGreatDoor
open Go.RowKit

theorem ret_any {b : Bool} {w : World} : ∃ c : Bool, Ending.returned (.bool b) = .returned (.bool c) ∧ w = w := ⟨b, rfl, rfl⟩

set_option maxRecDepth 100000 in
set_option maxHeartbeats 1600000 in
theorem underscore_any (s0 : List UInt8) (hs0 : s0.length ≤ 1000) (w : World) :
    Calls Tryz.prog 123 #[.string ⟨s0.toArray⟩] w fun e w' => ∃ b : Bool, e = .returned (.bool b) ∧ w = w' := by
  go_enter Tryz.func123, Tryz.ntmps123
  go_upto_region 3 with fail
  go_cut [18] (fun bb wc => ∃ b : Bool, bb = .bool b ∧ (b = true → 1 ≤ s0.length) ∧ w = wc)
  case first =>
    by_cases g1 : 1 ≤ s0.length
    · have t1 : decide ((1 : Int) ≤ (s0.length : Int)) = true := by simp; omega
      have hi0 := fun (ww : World) => run_index_list (P := Tryz.prog) 9 s0 0 0 _ Tryz.underlying9 rfl (by omega) rfl ww
      generalize (s0.getD 0 0).toNat = a at hi0
      by_cases g2 : a = 45
      · have t2 : ((a : Int) == 45) = true := by simp; omega
        clear g2
        go_wp2_with fail
        go_meet
        case rel => exact ⟨_, rfl, fun _ => g1, rfl⟩
      · have t2 : ((a : Int) == 45) = false := by simp; omega
        clear g2
        go_wp2_with fail
        all_goals
          go_meet
          case rel => exact ⟨_, rfl, fun _ => g1, rfl⟩
    · have t1 : decide ((1 : Int) ≤ (s0.length : Int)) = false := by simp; omega
      go_wp2_with fail
      go_meet
      case rel => exact ⟨false, rfl, (fun h => by cases h), rfl⟩
  case rest =>
    obtain ⟨b, rfl, hb, rfl⟩ := hcut
    go_upto_if 18 with fail
    go_cut [0] (fun v wc => ∃ s : List UInt8, v = .string ⟨s.toArray⟩ ∧ s.length ≤ 1000 ∧ w = wc)
    case first =>
      cases b with
      | true =>
        have hl := hb rfl
        have e1 : (ByteArray.mk s0.toArray).extract 1 s0.length = ⟨(s0.drop 1).toArray⟩ := extract_drop s0 1
        go_wp2_with fail
        go_meet
        case rel => exact ⟨s0.tail, rfl, by rw [List.length_tail]; omega, rfl⟩
      | false =>
        go_wp2_with fail
        go_meet
        case rel => exact ⟨s0, rfl, hs0, rfl⟩
    case rest =>
      obtain ⟨s, rfl, hs, rfl⟩ := hcut
      clear hb
      go_upto_region 6 with fail
      go_cut [46] (fun bb wc => ∃ b : Bool, bb = .bool b ∧ (b = true → 2 ≤ s.length) ∧ w = wc)
      case first =>
        by_cases g1 : 2 ≤ s.length
        · have t1 : decide ((2 : Int) ≤ (s.length : Int)) = true := by simp; omega
          have hi0 := fun (ww : World) => run_index_list (P := Tryz.prog) 9 s 0 0 _ Tryz.underlying9 rfl (by omega) rfl ww
          have hi1 := fun (ww : World) => run_index_list (P := Tryz.prog) 9 s 1 1 _ Tryz.underlying9 rfl (by omega) rfl ww
          have hb1 := (s.getD 1 0).toNat_lt
          generalize (s.getD 0 0).toNat = a at hi0
          generalize (s.getD 1 0).toNat = d at hi1 hb1
          have hlow := lower_nat d hb1
          generalize low5 d = l at hlow
          by_cases g2 : a = 48
          · have t2 : ((a : Int) == 48) = true := by simp; omega
            clear g2
            by_cases g3 : l = 98
            · have t3 : ((l : Int) == 98) = true := by simp; omega
              clear g3
              go_wp2_with (go_at_call 88; refine (Tryz.internal_strconv_lower _ _).mono ?_; rintro e w' ⟨rfl, rfl⟩)
              go_meet
              case rel => exact ⟨_, rfl, fun _ => g1, rfl⟩
            · have t3 : ((l : Int) == 98) = false := by simp; omega
              clear g3
              by_cases g4 : l = 111
              · have t4 : ((l : Int) == 111) = true := by simp; omega
                clear g4
                go_wp2_with (go_at_call 88; refine (Tryz.internal_strconv_lower _ _).mono ?_; rintro e w' ⟨rfl, rfl⟩)
                go_meet
                case rel => exact ⟨_, rfl, fun _ => g1, rfl⟩
              · have t4 : ((l : Int) == 111) = false := by simp; omega
                clear g4
                go_wp2_with (go_at_call 88; refine (Tryz.internal_strconv_lower _ _).mono ?_; rintro e w' ⟨rfl, rfl⟩)
                all_goals
                  go_meet
                  case rel => exact ⟨_, rfl, fun _ => g1, rfl⟩
          · have t2 : ((a : Int) == 48) = false := by simp; omega
            clear g2
            go_wp2_with fail
            go_meet
            case rel => exact ⟨_, rfl, fun _ => g1, rfl⟩
        · have t1 : decide ((2 : Int) ≤ (s.length : Int)) = false := by simp; omega
          go_wp2_with fail
          go_meet
          case rel => exact ⟨false, rfl, (fun h => by cases h), rfl⟩
      case rest =>
        obtain ⟨b, rfl, hb, rfl⟩ := hcut
        go_upto_if 46 with fail
        go_cut [3, 4, 5] (fun sw ii hx wc => ∃ (z : Int) (i : Nat) (x : Bool), sw = .int .i32 z ∧ ii = .int .i64 i ∧ hx = .bool x ∧ i ≤ s.length ∧ w = wc)
        case first =>
          cases b with
          | true =>
            have hl := hb rfl
            have hi1 := fun (ww : World) => run_index_list (P := Tryz.prog) 9 s 1 1 _ Tryz.underlying9 rfl (by omega) rfl ww
            go_wp2_with (go_at_call 88; refine (Tryz.internal_strconv_lower _ _).mono ?_; rintro e w' ⟨rfl, rfl⟩)
            all_goals
              go_meet
              case rel => exact ⟨48, 2, _, rfl, rfl, rfl, hl, rfl⟩
          | false =>
            go_wp2_with fail
            go_meet
            case rel => exact ⟨94, 0, false, rfl, rfl, rfl, by omega, rfl⟩
        case rest =>
          obtain ⟨z, i, x, rfl, rfl, rfl, hi, rfl⟩ := hcut
          clear hb
          go_wp2_with fail
          go_loopw [3, 4] (fun sw ii wr => ∃ (z : Int) (i : Nat), sw = .int .i32 z ∧ ii = .int .i64 i ∧ i ≤ s.length ∧ w = wr) (fun _ ii _ => (s.length - intOf ii).toNat)
          case atStart => exact ⟨z, i, rfl, rfl, hi, rfl⟩
          case round =>
            obtain ⟨z, i, rfl, rfl, hi, rfl⟩ := hrel
            by_cases hlt : i < s.length
            · have hix := fun (ww : World) => run_index_list (P := Tryz.prog) 9 s i i _ Tryz.underlying9 rfl hlt rfl ww
              have hb := (s.getD i 0).toNat_lt
              generalize (s.getD i 0).toNat = d at hix hb
              have hlow := lower_nat d hb
              generalize low5 d = l at hlow
              go_upto_region 12 with fail
              go_cut [83] (fun bb wc => ∃ b : Bool, bb = .bool b ∧ w = wc)
              case first =>
                by_cases g1 : 48 ≤ d
                · have t1 : decide ((48 : Int) ≤ (d : Int)) = true := by simp; omega
                  by_cases g2 : d ≤ 57
                  · have t2 : decide ((d : Int) ≤ 57) = true := by simp; omega
                    go_wp2_with fail
                    go_meet
                    case rel => exact ⟨_, rfl, rfl⟩
                  · have t2 : decide ((d : Int) ≤ 57) = false := by simp; omega
                    cases x with
                    | false =>
                      go_wp2_with fail
                      go_meet
                      case rel => exact ⟨_, rfl, rfl⟩
                    | true =>
                      by_cases g3 : 97 ≤ l
                      · have t3 : decide ((97 : Int) ≤ (l : Int)) = true := by simp; omega
                        go_wp2_with (go_at_call 88; refine (Tryz.internal_strconv_lower _ _).mono ?_; rintro e w' ⟨rfl, rfl⟩)
                        all_goals
                          go_meet
                          case rel => exact ⟨_, rfl, rfl⟩
                      · have t3 : decide ((97 : Int) ≤ (l : Int)) = false := by simp; omega
                        go_wp2_with (go_at_call 88; refine (Tryz.internal_strconv_lower _ _).mono ?_; rintro e w' ⟨rfl, rfl⟩)
                        go_meet
                        case rel => exact ⟨_, rfl, rfl⟩
                · have t1 : decide ((48 : Int) ≤ (d : Int)) = false := by simp; omega
                  cases x with
                  | false =>
                    go_wp2_with fail
                    go_meet
                    case rel => exact ⟨_, rfl, rfl⟩
                  | true =>
                    by_cases g3 : 97 ≤ l
                    · have t3 : decide ((97 : Int) ≤ (l : Int)) = true := by simp; omega
                      go_wp2_with (go_at_call 88; refine (Tryz.internal_strconv_lower _ _).mono ?_; rintro e w' ⟨rfl, rfl⟩)
                      all_goals
                        go_meet
                        case rel => exact ⟨_, rfl, rfl⟩
                    · have t3 : decide ((97 : Int) ≤ (l : Int)) = false := by simp; omega
                      go_wp2_with (go_at_call 88; refine (Tryz.internal_strconv_lower _ _).mono ?_; rintro e w' ⟨rfl, rfl⟩)
                      go_meet
                      case rel => exact ⟨_, rfl, rfl⟩
              case rest =>
                obtain ⟨b, rfl, rfl⟩ := hcut
                cases b with
                | true =>
                  go_wp2_with fail
                  exact ⟨⟨48, i + 1, rfl, by go_num, by omega, trivial⟩, by simp [intOf]; omega⟩
                | false =>
                  by_cases g5 : d = 95
                  · have t5 : ((d : Int) == 95) = true := by simp; omega
                    by_cases g6 : z = 48
                    · have t6 : (z != 48) = false := by simp; omega
                      clear g5 g6
                      go_wp2_with fail
                      exact ⟨⟨95, i + 1, rfl, by go_num, by omega, trivial⟩, by simp [intOf]; omega⟩
                    · have t6 : (z != 48) = true := by simp; omega
                      clear g5 g6
                      go_wp2_with fail
                      go_ret
                      exact ret_any
                  · have t5 : ((d : Int) == 95) = false := by simp; omega
                    by_cases g6 : z = 95
                    · have t6 : (z == 95) = true := by simp; omega
                      clear g5 g6
                      go_wp2_with fail
                      go_ret
                      exact ret_any
                    · have t6 : (z == 95) = false := by simp; omega
                      clear g5 g6
                      go_wp2_with fail
                      exact ⟨⟨33, i + 1, rfl, by go_num, by omega, trivial⟩, by simp [intOf]; omega⟩
            · obtain rfl : s.length = i := by omega
              go_wp2_with fail
              go_ret
              exact ret_any
end Go.Proofs.YtkaeaiagmihmgaaGreatDoor

namespace Go.Proofs.YtkaeaiagmihmgaaGreatDoor
open Go.RowKit

noncomputable def rfEnd : Code := tailN 4 rfRest
theorem results_seven {fn : Func} {a b c d e f g : Tmp} (h : fn.results = #[.tmp a, .tmp b, .tmp c, .tmp d, .tmp e, .tmp f, .tmp g]) (tmps : Array Value) (P : Program) (w : World) :
    (results fn tmps).run P w = .ok (.tuple #[tmps.getD a undef, tmps.getD b undef, tmps.getD c undef, tmps.getD d undef, tmps.getD e undef, tmps.getD f undef, tmps.getD g undef]) w := by
  simp [results, h]

set_option maxRecDepth 1000000 in
set_option maxHeartbeats 3200000 in
theorem end_any (s : List UInt8) (hs : s.length ≤ 1000) (neg tr hex us : Bool) (m i nm : Nat) (dp : Int) (hi : i ≤ s.length) (hd1 : -1000000 ≤ dp) (hd2 : dp ≤ 1000000) (hn : nm ≤ 1000000) (w : World) (Q0 : Exit → Act → World → Prop)
    (hR : ∀ (t : Array Value) (v : Value), (results Tryz.f127 t).run Tryz.prog w = .ok v w → RfPost s (.returned v) → Q0 .ret ⟨t, []⟩ w) (HO : Hid (rfM s = some ⟨m, expo m dp nm, neg, tr, hex, i, us⟩)) {c1 c10 c11 c12 c13 c14 c15 c18 c19 c20 c21 c22 c23 c24 c25 c26 c27 c28 c29 c30 c31 c32 c33 c34 c35 c36 c37 c38 c39 c40 c41 c42 c43 c44 c45 c46 c47 c48 c49 c50 c51 c52 c53 c54 c55 c56 c57 c58 c59 c60 c61 c62 c63 c64 c65 c66 c67 c68 c69 c70 c71 c72 c73 c74 c75 c76 c77 c78 c79 c80 c81 c82 c83 c84 c85 c86 c87 c88 c89 c90 c91 c92 c93 c94 c95 c96 c97 c98 c99 c100 c101 c102 c103 c104 c105 c106 c107 c108 c109 c110 c111 c112 c113 c114 c115 c116 c117 c118 c119 c120 c121 c122 c123 c124 c125 c126 c127 c128 c129 c130 c131 c132 c133 c134 c135 c136 c137 c138 c139 c140 c141 c142 c143 c144 c145 c146 c147 c148 c149 c150 c151 c152 c153 c154 c155 c156 c157 c158 c159 c160 c161 c162 c163 c164 c165 c166 c167 c168 c169 c170 c171 c172 c173 c174 c175 c176 c177 c178 c179 c180 c181 c182 c183 c184 c185 c186 c187 c188 c189 c190 c191 c192 c193 c194 c195 c196 c197 c198 c199 c200 c201 c202 c203 c204 c205 c206 c207 c208 c209 c210 c211 c212 c213 c214 c215 c216 c217 c218 c219 c220 c221 c222 c223 c224 c225 c226 c227 c228 c229 c230 c231 c232 c233 c234 c235 c236 c237 c238 c239 c240 c241 c242 c243 c244 c245 c246 c247 c248 c249 c250 c251 c252 : Value} :
    Code.wp Tryz.prog rfEnd Q0 ⟨#[.string ⟨s.toArray⟩, c1, .int .u64 m, .int .i64 0, .bool neg, .bool tr, .bool hex, .int .i64 i, .bool false, .bool us, c10, c11, c12, c13, c14, c15, .int .i64 nm, .int .i64 dp, c18, c19, c20, c21, c22, c23, c24, c25, c26, c27, c28, c29, c30, c31, c32, c33, c34, c35, c36, c37, c38, c39, c40, c41, c42, c43, c44, c45, c46, c47, c48, c49, c50, c51, c52, c53, c54, c55, c56, c57, c58, c59, c60, c61, c62, c63, c64, c65, c66, c67, c68, c69, c70, c71, c72, c73, c74, c75, c76, c77, c78, c79, c80, c81, c82, c83, c84, c85, c86, c87, c88, c89, c90, c91, c92, c93, c94, c95, c96, c97, c98, c99, c100, c101, c102, c103, c104, c105, c106, c107, c108, c109, c110, c111, c112, c113, c114, c115, c116, c117, c118, c119, c120, c121, c122, c123, c124, c125, c126, c127, c128, c129, c130, c131, c132, c133, c134, c135, c136, c137, c138, c139, c140, c141, c142, c143, c144, c145, c146, c147, c148, c149, c150, c151, c152, c153, c154, c155, c156, c157, c158, c159, c160, c161, c162, c163, c164, c165, c166, c167, c168, c169, c170, c171, c172, c173, c174, c175, c176, c177, c178, c179, c180, c181, c182, c183, c184, c185, c186, c187, c188, c189, c190, c191, c192, c193, c194, c195, c196, c197, c198, c199, c200, c201, c202, c203, c204, c205, c206, c207, c208, c209, c210, c211, c212, c213, c214, c215, c216, c217, c218, c219, c220, c221, c222, c223, c224, c225, c226, c227, c228, c229, c230, c231, c232, c233, c234, c235, c236, c237, c238, c239, c240, c241, c242, c243, c244, c245, c246, c247, c248, c249, c250, c251, c252], []⟩ w := by
  conv => arg 2; whnf
  have hm : m = 0 ∨ m ≠ 0 := by omega
  have hsl : ∀ ww : World, (Instr.slice 9 (.string ⟨s.toArray⟩) none (some (.int .i64 (i : Int))) none).run Tryz.prog ww = .ok (.string ⟨(s.take i).toArray⟩) ww := fun ww => by
    have h := run_slice_string_h (P := Tryz.prog) ww 9 ⟨s.toArray⟩ Tryz.underlying9 .i64 (i : Int) (by omega) (by simp [ByteArray.size]; omega)
    rw [show ((i : Int)).toNat = i from rfl, extract_take] at h
    exact h
  have hsm : (s.take i).length ≤ 1000 := by rw [List.length_take]; omega
  generalize s.take i = si at hsl hsm
  rcases hm with hm | hm
  · have HP : Hid (rfM s = some ⟨m, 0, neg, tr, hex, i, us⟩) := by show _ = _; rw [HO.out]; unfold expo; rw [if_pos hm]
    subst hm
    clear HO
    cases us with
    | false =>
      go_wp2_with fail
      exact hR _ _ (results_seven rfl _ _ _) (.inr ⟨_, true, HP.out, fun _ => rfl, rfl⟩)
    | true =>
      go_wp2_with fail
      refine (underscore_any si hsm w).mono ?_
      rintro e w' ⟨b, rfl, rfl⟩
      cases b with
      | false =>
        go_wp2_with fail
        exact hR _ _ (results_seven rfl _ _ _) (.inr ⟨_, false, HP.out, (fun h => by cases h), rfl⟩)
      | true =>
        go_wp2_with fail
        exact hR _ _ (results_seven rfl _ _ _) (.inr ⟨_, true, HP.out, fun _ => rfl, rfl⟩)
  · have HP : Hid (rfM s = some ⟨m, dp - nm, neg, tr, hex, i, us⟩) := by show _ = _; rw [HO.out]; unfold expo; rw [if_neg hm]
    have tm : ((m : Int) != 0) = true := by simp; omega
    clear HO
    cases us with
    | false =>
      go_wp2_with fail
      exact hR _ _ (results_seven rfl _ _ _) (.inr ⟨_, true, HP.out, fun _ => rfl, rfl⟩)
    | true =>
      go_wp2_with fail
      refine (underscore_any si hsm w).mono ?_
      rintro e w' ⟨b, rfl, rfl⟩
      cases b with
      | false =>
        go_wp2_with fail
        exact hR _ _ (results_seven rfl _ _ _) (.inr ⟨_, false, HP.out, (fun h => by cases h), rfl⟩)
      | true =>
        go_wp2_with fail
        exact hR _ _ (results_seven rfl _ _ _) (.inr ⟨_, true, HP.out, fun _ => rfl, rfl⟩)
end Go.Proofs.YtkaeaiagmihmgaaGreatDoor
