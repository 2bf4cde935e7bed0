/- strconv's readFloat: its digits' loop, base 10. -/
import Derived.Test.YtkaeaiagmihmgaaGreatDoorQFyO
namespace Go.Proofs.YtkaeaiagmihmgaaGreatDoor
open Go.RowKit

set_option maxRecDepth 1000000 in
set_option maxHeartbeats 3200000 in
theorem loop_dec (s : List UInt8) (hs : s.length ≤ 1000) (neg : Bool) (i1 : Nat) (hil : i1 ≤ s.length) (w : World) (K : Act → World → Prop) (Q0 : Exit → Act → World → Prop)
    (HC : Hid (rfM s = rfC s neg false i1)) {c1 c19 c20 c21 c22 c23 c24 c25 c26 c27 c28 c29 c30 c31 c32 c33 c34 c35 c36 c37 c38 c39 c40 c41 c42 c43 c44 c45 c46 c47 c48 c49 c50 c51 c52 c53 c54 c55 c56 c139 c140 c141 c142 c143 c144 c145 c146 c147 c148 c149 c150 c151 c152 c153 c154 c155 c156 c157 c158 c159 c160 c161 c162 c163 c164 c165 c166 c167 c168 c169 c170 c171 c172 c173 c174 c175 c176 c177 c178 c179 c180 c181 c182 c183 c184 c185 c186 c187 c188 c189 c190 c191 c192 c193 c194 c195 c196 c197 c198 c199 c200 c201 c202 c203 c204 c205 c206 c207 c208 c209 c210 c211 c212 c213 c214 c215 c216 c217 c218 c219 c220 c221 c222 c223 c224 c225 c226 c227 c228 c229 c230 c231 c232 c233 c234 c235 c236 c237 c238 c239 c240 c241 c242 c243 c244 c245 c246 c247 c248 c249 c250 c251 c252 a18 a57 a58 a59 a60 a61 a62 a63 a64 a65 a66 a67 a68 a69 a70 a71 a72 a73 a74 a75 a76 a77 a78 a79 a80 a81 a82 a83 a84 a85 a86 a87 a88 a89 a90 a91 a92 a93 a94 a95 a96 a97 a98 a99 a100 a101 a102 a103 a104 a105 a106 a107 a108 a109 a110 a111 a112 a113 a114 a115 a116 a117 a118 a119 a120 a121 a122 a123 a124 a125 a126 a127 a128 a129 a130 a131 a132 a133 a134 a135 a136 a137 a138 : Value}
    (hK : ∀ {u18 u57 u58 u59 u60 u61 u62 u63 u64 u65 u66 u67 u68 u69 u70 u71 u72 u73 u74 u75 u76 u77 u78 u79 u80 u81 u82 u83 u84 u85 u86 u87 u88 u89 u90 u91 u92 u93 u94 u95 u96 u97 u98 u99 u100 u101 u102 u103 u104 u105 u106 u107 u108 u109 u110 u111 u112 u113 u114 u115 u116 u117 u118 u119 u120 u121 u122 u123 u124 u125 u126 u127 u128 u129 u130 u131 u132 u133 u134 u135 u136 u137 u138 : Value} (m : Nat) (tr us dot dig : Bool) (nd nm : Nat) (dp : Int) (j : Nat), j ≤ s.length → (⟨m, tr, us, dot, dig, nd, nm, dp⟩ : Rf).Ok j → Hid (rfM s = rfD s neg false ⟨m, tr, us, dot, dig, nd, nm, dp⟩ j) → K ⟨#[.string ⟨s.toArray⟩, c1, .int .u64 m, .int .i64 0, .bool neg, .bool tr, .bool false, .int .i64 j, .bool false, .bool us, .int .u64 10, .int .i64 19, .int .u8 101, .bool dot, .bool dig, .int .i64 nd, .int .i64 nm, .int .i64 dp, u18, c19, c20, c21, c22, c23, c24, c25, c26, c27, c28, c29, c30, c31, c32, c33, c34, c35, c36, c37, c38, c39, c40, c41, c42, c43, c44, c45, c46, c47, c48, c49, c50, c51, c52, c53, c54, c55, c56, u57, u58, u59, u60, u61, u62, u63, u64, u65, u66, u67, u68, u69, u70, u71, u72, u73, u74, u75, u76, u77, u78, u79, u80, u81, u82, u83, u84, u85, u86, u87, u88, u89, u90, u91, u92, u93, u94, u95, u96, u97, u98, u99, u100, u101, u102, u103, u104, u105, u106, u107, u108, u109, u110, u111, u112, u113, u114, u115, u116, u117, u118, u119, u120, u121, u122, u123, u124, u125, u126, u127, u128, u129, u130, u131, u132, u133, u134, u135, u136, u137, u138, c139, c140, c141, c142, c143, c144, c145, c146, c147, c148, c149, c150, c151, c152, c153, c154, c155, c156, c157, c158, c159, c160, c161, c162, c163, c164, c165, c166, c167, c168, c169, c170, c171, c172, c173, c174, c175, c176, c177, c178, c179, c180, c181, c182, c183, c184, c185, c186, c187, c188, c189, c190, c191, c192, c193, c194, c195, c196, c197, c198, c199, c200, c201, c202, c203, c204, c205, c206, c207, c208, c209, c210, c211, c212, c213, c214, c215, c216, c217, c218, c219, c220, c221, c222, c223, c224, c225, c226, c227, c228, c229, c230, c231, c232, c233, c234, c235, c236, c237, c238, c239, c240, c241, c242, c243, c244, c245, c246, c247, c248, c249, c250, c251, c252], []⟩ w) :
    Code.wp Tryz.prog rfLoop (Exit.then K Q0) ⟨#[.string ⟨s.toArray⟩, c1, .int .u64 0, .int .i64 0, .bool neg, .bool false, .bool false, .int .i64 i1, .bool false, .bool false, .int .u64 10, .int .i64 19, .int .u8 101, .bool false, .bool false, .int .i64 0, .int .i64 0, .int .i64 0, a18, c19, c20, c21, c22, c23, c24, c25, c26, c27, c28, c29, c30, c31, c32, c33, c34, c35, c36, c37, c38, c39, c40, c41, c42, c43, c44, c45, c46, c47, c48, c49, c50, c51, c52, c53, c54, c55, c56, a57, a58, a59, a60, a61, a62, a63, a64, a65, a66, a67, a68, a69, a70, a71, a72, a73, a74, a75, a76, a77, a78, a79, a80, a81, a82, a83, a84, a85, a86, a87, a88, a89, a90, a91, a92, a93, a94, a95, a96, a97, a98, a99, a100, a101, a102, a103, a104, a105, a106, a107, a108, a109, a110, a111, a112, a113, a114, a115, a116, a117, a118, a119, a120, a121, a122, a123, a124, a125, a126, a127, a128, a129, a130, a131, a132, a133, a134, a135, a136, a137, a138, c139, c140, c141, c142, c143, c144, c145, c146, c147, c148, c149, c150, c151, c152, c153, c154, c155, c156, c157, c158, c159, c160, c161, c162, c163, c164, c165, c166, c167, c168, c169, c170, c171, c172, c173, c174, c175, c176, c177, c178, c179, c180, c181, c182, c183, c184, c185, c186, c187, c188, c189, c190, c191, c192, c193, c194, c195, c196, c197, c198, c199, c200, c201, c202, c203, c204, c205, c206, c207, c208, c209, c210, c211, c212, c213, c214, c215, c216, c217, c218, c219, c220, c221, c222, c223, c224, c225, c226, c227, c228, c229, c230, c231, c232, c233, c234, c235, c236, c237, c238, c239, c240, c241, c242, c243, c244, c245, c246, c247, c248, c249, c250, c251, c252], []⟩ w := by
  conv => arg 2; whnf
  go_wp2_with fail
  go_loopw [2, 5, 7, 9, 13, 14, 15, 16, 17] (fun m tr ii us dot dig nd nm dp wr => ∃ (r : Rf) (j : Nat), m = .int .u64 r.m ∧ tr = .bool r.tr ∧ ii = .int .i64 j ∧ us = .bool r.us ∧ dot = .bool r.dot ∧ dig = .bool r.dig ∧ nd = .int .i64 r.nd ∧ nm = .int .i64 r.nm ∧ dp = .int .i64 r.dp ∧ j ≤ s.length ∧ Hid (RfAt s false i1 r j) ∧ w = wr) (fun _ _ ii _ _ _ _ _ _ _ => (s.length - intOf ii).toNat)
  case atStart => exact ⟨rf0, _, rfl, rfl, rfl, rfl, rfl, rfl, rfl, rfl, rfl, hil, RfAt.start hil, rfl⟩
  case round =>
    obtain ⟨r, j, rfl, rfl, rfl, rfl, rfl, rfl, rfl, rfl, rfl, hj, HR, rfl⟩ := hrel
    have hko := HR.out.2.2.1
    have k0 := HR.out.1
    have HO : r.Ok j := ⟨hko.m, Nat.le_trans hko.nd (by omega), hko.nm, by have := hko.lo; omega, by have := hko.hi; omega⟩
    obtain ⟨m, tr, us, dot, dig, nd, nm, dp⟩ := r
    have k1 : m < 18446744073709551616 := hko.m
    have k2 : nd ≤ j - i1 := hko.nd
    have k3 : nm ≤ nd := hko.nm
    have k4 : -((j - i1 : Nat) : Int) ≤ dp := hko.lo
    have k5 : dp ≤ ((j - i1 : Nat) : Int) := hko.hi
    clear hko
    by_cases hlt : j < s.length
    · have hix := fun (ww : World) => run_index_list (P := Tryz.prog) 9 s j j _ Tryz.underlying9 rfl hlt rfl ww
      have hb := (s.getD j 0).toNat_lt
      obtain ⟨cc, hcc⟩ : ∃ cc, (s.getD j 0).toNat = cc := ⟨_, rfl⟩
      rw [hcc] at hix hb
      have HCC := Lib.hid hcc
      clear hcc
      by_cases c95 : cc = 95
      · as_aux_lemma =>
          subst c95
          have hN : RfAt s false i1 ⟨m, tr, true, dot, dig, nd, nm, dp⟩ (j + 1) := HR.out.next hlt (by rw [HCC.out]; exact step_us rfl)
          have HN := Lib.hid hN
          clear hN
          go_wp2_with fail
          refine ⟨⟨⟨m, tr, true, dot, dig, nd, nm, dp⟩, j + 1, ?_, rfl, by go_num, rfl, rfl, rfl, ?_, ?_, ?_, by omega, HN, trivial⟩, by simp [intOf]; omega⟩
          all_goals first | rfl | exact congrArg (Value.int .u64) (by simp only [IntKind.wrap_u64]; omega) | exact congrArg (Value.int .i64) (by omega)
      by_cases c46 : cc = 46
      · subst c46
        cases dot with
        | true =>
          as_aux_lemma =>
            have HE := Lib.hid (HC.out.trans (HR.out.stop (.inr (by rw [HCC.out]; exact step_dots rfl rfl)) neg))
            go_wp2_with fail
            exact hK m tr us true dig nd nm dp j hj HO HE
        | false =>
          as_aux_lemma =>
            have hN : RfAt s false i1 ⟨m, tr, us, true, dig, nd, nm, nd⟩ (j + 1) := HR.out.next hlt (by rw [HCC.out]; exact step_dot rfl rfl)
            have HN := Lib.hid hN
            clear hN
            go_wp2_with fail
            refine ⟨⟨⟨m, tr, us, true, dig, nd, nm, nd⟩, j + 1, ?_, rfl, by go_num, rfl, rfl, rfl, ?_, ?_, ?_, by omega, HN, trivial⟩, by simp [intOf]; omega⟩
            all_goals first | rfl | exact congrArg (Value.int .u64) (by simp only [IntKind.wrap_u64]; omega) | exact congrArg (Value.int .i64) (by omega)
      have t95 : ((cc : Int) == 95) = false := by simp; omega
      have t46 : ((cc : Int) == 46) = false := by simp; omega
      by_cases cd : 48 ≤ cc ∧ cc ≤ 57
      · obtain ⟨cd1, cd2⟩ := cd
        have td1 : decide ((48 : Int) ≤ (cc : Int)) = true := by simp; omega
        have td2 : decide ((cc : Int) ≤ 57) = true := by simp; omega
        have td1' : (48 : Int) ≤ (cc : Int) := by omega
        have td2' : (cc : Int) ≤ 57 := by omega
        by_cases cz : cc = 48
        · subst cz
          by_cases cn : nd = 0
          · as_aux_lemma =>
              subst cn
              have hN : RfAt s false i1 ⟨m, tr, us, dot, true, 0, nm, dp - 1⟩ (j + 1) := HR.out.next hlt (by rw [HCC.out]; exact step_zero rfl rfl)
              have HN := Lib.hid hN
              clear hN
              go_wp2_with fail
              refine ⟨⟨⟨m, tr, us, dot, true, 0, nm, dp - 1⟩, j + 1, ?_, rfl, by go_num, rfl, rfl, rfl, ?_, ?_, ?_, by omega, HN, trivial⟩, by simp [intOf]; omega⟩
              all_goals first | rfl | exact congrArg (Value.int .u64) (by simp only [IntKind.wrap_u64]; omega) | exact congrArg (Value.int .i64) (by omega)
          have tn : ((nd : Int) == 0) = false := by simp; omega
          by_cases cm : nm < 19
          · as_aux_lemma =>
              have tm : decide ((nm : Int) < 19) = true := by simp; omega
              have hN : RfAt s false i1 ⟨(m * 10 + (48 - 48)) % 18446744073709551616, tr, us, dot, true, nd + 1, nm + 1, dp⟩ (j + 1) := HR.out.next hlt (by rw [HCC.out]; exact (step_dig (by omega) (by omega) (fun h => cn h.2)).trans (congrArg some (put_ten cm _ _)))
              have HN := Lib.hid hN
              clear hN
              go_wp2_with fail
              refine ⟨⟨⟨(m * 10 + (48 - 48)) % 18446744073709551616, tr, us, dot, true, nd + 1, nm + 1, dp⟩, j + 1, ?_, rfl, by go_num, rfl, rfl, rfl, ?_, ?_, ?_, by omega, HN, trivial⟩, by simp [intOf]; omega⟩
              all_goals first | rfl | exact congrArg (Value.int .u64) (by simp only [IntKind.wrap_u64]; omega) | exact congrArg (Value.int .i64) (by omega)
          · as_aux_lemma =>
              have tm : decide ((nm : Int) < 19) = false := by simp; omega
              have hN : RfAt s false i1 ⟨m, tr, us, dot, true, nd + 1, nm, dp⟩ (j + 1) := HR.out.next hlt (by rw [HCC.out]; exact (step_dig (by omega) (by omega) (fun h => cn h.2)).trans ((congrArg some (put_ten_full cm _ _)).trans (by simp)))
              have HN := Lib.hid hN
              clear hN
              go_wp2_with fail
              refine ⟨⟨⟨m, tr, us, dot, true, nd + 1, nm, dp⟩, j + 1, ?_, rfl, by go_num, rfl, rfl, rfl, ?_, ?_, ?_, by omega, HN, trivial⟩, by simp [intOf]; omega⟩
              all_goals first | rfl | exact congrArg (Value.int .u64) (by simp only [IntKind.wrap_u64]; omega) | exact congrArg (Value.int .i64) (by omega)
        · have tz : ((cc : Int) == 48) = false := by simp; omega
          have tz' : ((cc : Int) != 48) = true := by simp; omega
          by_cases cm : nm < 19
          · as_aux_lemma =>
              have tm : decide ((nm : Int) < 19) = true := by simp; omega
              have hN : RfAt s false i1 ⟨(m * 10 + (cc - 48)) % 18446744073709551616, tr, us, dot, true, nd + 1, nm + 1, dp⟩ (j + 1) := HR.out.next hlt (by rw [HCC.out]; exact (step_dig cd1 cd2 (fun h => cz h.1)).trans (congrArg some (put_ten cm _ _)))
              have HN := Lib.hid hN
              clear hN
              go_wp2_with fail
              refine ⟨⟨⟨(m * 10 + (cc - 48)) % 18446744073709551616, tr, us, dot, true, nd + 1, nm + 1, dp⟩, j + 1, ?_, rfl, by go_num, rfl, rfl, rfl, ?_, ?_, ?_, by omega, HN, trivial⟩, by simp [intOf]; omega⟩
              all_goals first | rfl | exact congrArg (Value.int .u64) (by simp only [IntKind.wrap_u64]; omega) | exact congrArg (Value.int .i64) (by omega)
          · as_aux_lemma =>
              have tm : decide ((nm : Int) < 19) = false := by simp; omega
              have tq : (cc == 48) = false := by simp; omega
              have hN : RfAt s false i1 ⟨m, true, us, dot, true, nd + 1, nm, dp⟩ (j + 1) := HR.out.next hlt (by rw [HCC.out]; exact (step_dig cd1 cd2 (fun h => cz h.1)).trans ((congrArg some (put_ten_full cm _ _)).trans (by rw [tq]; simp)))
              have HN := Lib.hid hN
              clear hN
              go_wp2_with fail
              refine ⟨⟨⟨m, true, us, dot, true, nd + 1, nm, dp⟩, j + 1, ?_, rfl, by go_num, rfl, rfl, rfl, ?_, ?_, ?_, by omega, HN, trivial⟩, by simp [intOf]; omega⟩
              all_goals first | rfl | exact congrArg (Value.int .u64) (by simp only [IntKind.wrap_u64]; omega) | exact congrArg (Value.int .i64) (by omega)
      by_cases cl : 48 ≤ cc
      · as_aux_lemma =>
          have td1 : decide ((48 : Int) ≤ (cc : Int)) = true := by simp; omega
          have td2 : decide ((cc : Int) ≤ 57) = false := by simp; omega
          have HE := Lib.hid (HC.out.trans (HR.out.stop (.inr (by rw [HCC.out]; exact step_none c95 c46 cd (fun h => absurd h.1 Bool.false_ne_true))) neg))
          go_wp2_with fail
          exact hK m tr us dot dig nd nm dp j hj HO HE
      · as_aux_lemma =>
          have td1 : decide ((48 : Int) ≤ (cc : Int)) = false := by simp; omega
          have HE := Lib.hid (HC.out.trans (HR.out.stop (.inr (by rw [HCC.out]; exact step_none c95 c46 cd (fun h => absurd h.1 Bool.false_ne_true))) neg))
          go_wp2_with fail
          exact hK m tr us dot dig nd nm dp j hj HO HE
    · as_aux_lemma =>
        obtain rfl : s.length = j := by omega
        have HE := Lib.hid (HC.out.trans (HR.out.stop (.inl (Nat.le_refl _)) neg))
        go_wp2_with fail
        exact hK m tr us dot dig nd nm dp s.length hj HO HE
end Go.Proofs.YtkaeaiagmihmgaaGreatDoor
