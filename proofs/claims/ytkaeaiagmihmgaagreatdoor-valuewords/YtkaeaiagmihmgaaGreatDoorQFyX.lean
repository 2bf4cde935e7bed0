/- strconv's readFloat: behind the digits' loop. -/
/- strconv's readFloat: behind the digits' loop, base 16. -/
/- strconv's readFloat, whole. -/
import Derived.Test.YtkaeaiagmihmgaaGreatDoorQFyU
import Derived.Test.YtkaeaiagmihmgaaGreatDoorQFyP
import Derived.Test.YtkaeaiagmihmgaaGreatDoorQFyQ
namespace Go.Proofs.YtkaeaiagmihmgaaGreatDoor
open Go.RowKit

noncomputable def rfS51 : Code := headC rfRest
noncomputable def rfS52 : Code := headC (tailN 1 rfRest)
noncomputable def rfS54 : Code := headC (tailN 2 rfRest)
noncomputable def rfT3 : Code := tailN 3 rfRest

set_option maxRecDepth 1000000 in
set_option maxHeartbeats 3200000 in
theorem tail_dec (s : List UInt8) (hs : s.length ≤ 1000) (neg tr us : Bool) (m j nm : Nat) (dp : Int) (r : Rf) (hrm : r.m = m) (hrt : r.tr = tr) (hru : r.us = us) (hj : j ≤ s.length) (hd1 : -10000 ≤ dp) (hd2 : dp ≤ 10000) (hn : nm ≤ 1000000) (w : World) (Q0 : Exit → Act → World → Prop)
    (hR : ∀ (t : Array Value) (v : Value), (results Tryz.f127 t).run Tryz.prog w = .ok v w → RfPost s (.returned v) → Q0 .ret ⟨t, []⟩ w) (HF : Hid (rfM s = rfE s neg false r j dp nm)) {c1 c11 c13 c14 c15 c18 c19 c20 c21 c22 c23 c24 c25 c26 c27 c28 c29 c30 c31 c32 c33 c34 c35 c36 c37 c38 c39 c40 c41 c42 c43 c44 c45 c46 c47 c48 c49 c50 c51 c52 c53 c54 c55 c56 c57 c58 c59 c60 c61 c62 c63 c64 c65 c66 c67 c68 c69 c70 c71 c72 c73 c74 c75 c76 c77 c78 c79 c80 c81 c82 c83 c84 c85 c86 c87 c88 c89 c90 c91 c92 c93 c94 c95 c96 c97 c98 c99 c100 c101 c102 c103 c104 c105 c106 c107 c108 c109 c110 c111 c112 c113 c114 c115 c116 c117 c118 c119 c120 c121 c122 c123 c124 c125 c126 c127 c128 c129 c130 c131 c132 c133 c134 c135 c136 c137 c138 c139 c140 c141 c142 c143 c144 c145 c146 c147 c148 c149 c150 c151 c152 c153 c154 c155 c156 c157 c158 c159 c160 c161 c162 c163 c164 c165 c166 c167 c168 c169 c170 c171 c172 c173 c174 c175 c176 c177 c178 c179 c180 c181 c182 c183 c184 c185 c186 c187 c188 c189 c190 c191 c192 c193 c194 c195 c196 c197 c198 c199 c200 c201 c202 c203 c204 c205 c206 c207 c208 c209 c210 c211 c212 c213 c214 c215 c216 c217 c218 c219 c220 c221 c222 c223 c224 c225 c226 c227 c228 c229 c230 c231 c232 c233 c234 c235 c236 c237 c238 c239 c240 c241 c242 c243 c244 c245 c246 c247 c248 c249 c250 c251 c252 : Value} :
    Code.wp Tryz.prog rfT3 Q0 ⟨#[.string ⟨s.toArray⟩, c1, .int .u64 m, .int .i64 0, .bool neg, .bool tr, .bool false, .int .i64 j, .bool false, .bool us, .int .u64 10, c11, .int .u8 101, c13, c14, c15, .int .i64 nm, .int .i64 dp, c18, c19, c20, c21, c22, c23, c24, c25, c26, c27, c28, c29, c30, c31, c32, c33, c34, c35, c36, c37, c38, c39, c40, c41, c42, c43, c44, c45, c46, c47, c48, c49, c50, c51, c52, c53, c54, c55, c56, c57, c58, c59, c60, c61, c62, c63, c64, c65, c66, c67, c68, c69, c70, c71, c72, c73, c74, c75, c76, c77, c78, c79, c80, c81, c82, c83, c84, c85, c86, c87, c88, c89, c90, c91, c92, c93, c94, c95, c96, c97, c98, c99, c100, c101, c102, c103, c104, c105, c106, c107, c108, c109, c110, c111, c112, c113, c114, c115, c116, c117, c118, c119, c120, c121, c122, c123, c124, c125, c126, c127, c128, c129, c130, c131, c132, c133, c134, c135, c136, c137, c138, c139, c140, c141, c142, c143, c144, c145, c146, c147, c148, c149, c150, c151, c152, c153, c154, c155, c156, c157, c158, c159, c160, c161, c162, c163, c164, c165, c166, c167, c168, c169, c170, c171, c172, c173, c174, c175, c176, c177, c178, c179, c180, c181, c182, c183, c184, c185, c186, c187, c188, c189, c190, c191, c192, c193, c194, c195, c196, c197, c198, c199, c200, c201, c202, c203, c204, c205, c206, c207, c208, c209, c210, c211, c212, c213, c214, c215, c216, c217, c218, c219, c220, c221, c222, c223, c224, c225, c226, c227, c228, c229, c230, c231, c232, c233, c234, c235, c236, c237, c238, c239, c240, c241, c242, c243, c244, c245, c246, c247, c248, c249, c250, c251, c252], []⟩ w :=
  (wp_seq (x := rfExp) (y := rfEnd) (exp_dec s hs neg tr us m j nm dp r hrm hrt hru hj hd1 hd2 w (Code.wp Tryz.prog rfEnd Q0) Q0 hR HF (fun i' us' dp' h1 h2 h3 h4 => end_any s hs neg tr false us' m i' nm dp' h1 h2 h3 hn w Q0 hR h4)) :)

set_option maxRecDepth 1000000 in
set_option maxHeartbeats 3200000 in
theorem rest_dec (s : List UInt8) (hs : s.length ≤ 1000) (neg tr us dot dig : Bool) (m j nd nm : Nat) (dp : Int) (hj : j ≤ s.length) (HO : (⟨m, tr, us, dot, dig, nd, nm, dp⟩ : Rf).Ok j) (w : World) (Q0 : Exit → Act → World → Prop)
    (hR : ∀ (t : Array Value) (v : Value), (results Tryz.f127 t).run Tryz.prog w = .ok v w → RfPost s (.returned v) → Q0 .ret ⟨t, []⟩ w) (HE : Hid (rfM s = rfD s neg false ⟨m, tr, us, dot, dig, nd, nm, dp⟩ j)) {c1 c18 c19 c20 c21 c22 c23 c24 c25 c26 c27 c28 c29 c30 c31 c32 c33 c34 c35 c36 c37 c38 c39 c40 c41 c42 c43 c44 c45 c46 c47 c48 c49 c50 c51 c52 c53 c54 c55 c56 c57 c58 c59 c60 c61 c62 c63 c64 c65 c66 c67 c68 c69 c70 c71 c72 c73 c74 c75 c76 c77 c78 c79 c80 c81 c82 c83 c84 c85 c86 c87 c88 c89 c90 c91 c92 c93 c94 c95 c96 c97 c98 c99 c100 c101 c102 c103 c104 c105 c106 c107 c108 c109 c110 c111 c112 c113 c114 c115 c116 c117 c118 c119 c120 c121 c122 c123 c124 c125 c126 c127 c128 c129 c130 c131 c132 c133 c134 c135 c136 c137 c138 c139 c140 c141 c142 c143 c144 c145 c146 c147 c148 c149 c150 c151 c152 c153 c154 c155 c156 c157 c158 c159 c160 c161 c162 c163 c164 c165 c166 c167 c168 c169 c170 c171 c172 c173 c174 c175 c176 c177 c178 c179 c180 c181 c182 c183 c184 c185 c186 c187 c188 c189 c190 c191 c192 c193 c194 c195 c196 c197 c198 c199 c200 c201 c202 c203 c204 c205 c206 c207 c208 c209 c210 c211 c212 c213 c214 c215 c216 c217 c218 c219 c220 c221 c222 c223 c224 c225 c226 c227 c228 c229 c230 c231 c232 c233 c234 c235 c236 c237 c238 c239 c240 c241 c242 c243 c244 c245 c246 c247 c248 c249 c250 c251 c252 : Value} :
    Code.wp Tryz.prog rfRest Q0 ⟨#[.string ⟨s.toArray⟩, c1, .int .u64 m, .int .i64 0, .bool neg, .bool tr, .bool false, .int .i64 j, .bool false, .bool us, .int .u64 10, .int .i64 19, .int .u8 101, .bool dot, .bool dig, .int .i64 nd, .int .i64 nm, .int .i64 dp, c18, c19, c20, c21, c22, c23, c24, c25, c26, c27, c28, c29, c30, c31, c32, c33, c34, c35, c36, c37, c38, c39, c40, c41, c42, c43, c44, c45, c46, c47, c48, c49, c50, c51, c52, c53, c54, c55, c56, c57, c58, c59, c60, c61, c62, c63, c64, c65, c66, c67, c68, c69, c70, c71, c72, c73, c74, c75, c76, c77, c78, c79, c80, c81, c82, c83, c84, c85, c86, c87, c88, c89, c90, c91, c92, c93, c94, c95, c96, c97, c98, c99, c100, c101, c102, c103, c104, c105, c106, c107, c108, c109, c110, c111, c112, c113, c114, c115, c116, c117, c118, c119, c120, c121, c122, c123, c124, c125, c126, c127, c128, c129, c130, c131, c132, c133, c134, c135, c136, c137, c138, c139, c140, c141, c142, c143, c144, c145, c146, c147, c148, c149, c150, c151, c152, c153, c154, c155, c156, c157, c158, c159, c160, c161, c162, c163, c164, c165, c166, c167, c168, c169, c170, c171, c172, c173, c174, c175, c176, c177, c178, c179, c180, c181, c182, c183, c184, c185, c186, c187, c188, c189, c190, c191, c192, c193, c194, c195, c196, c197, c198, c199, c200, c201, c202, c203, c204, c205, c206, c207, c208, c209, c210, c211, c212, c213, c214, c215, c216, c217, c218, c219, c220, c221, c222, c223, c224, c225, c226, c227, c228, c229, c230, c231, c232, c233, c234, c235, c236, c237, c238, c239, c240, c241, c242, c243, c244, c245, c246, c247, c248, c249, c250, c251, c252], []⟩ w := by
  have k2 : nd ≤ j := HO.nd
  have k3 : nm ≤ nd := HO.nm
  have k4 : -(j : Int) ≤ dp := HO.lo
  have k5 : dp ≤ j := HO.hi
  clear HO
  show Code.wp _ (Code.seq rfS51 (Code.seq rfS52 (Code.seq rfS54 rfT3))) _ _ _
  cases dig with
  | false =>
    have HN := Lib.hid (HE.out.trans (show rfD s neg false ⟨m, tr, us, dot, false, nd, nm, dp⟩ j = none from rfl))
    refine wp_seq ?_
    conv => arg 2; whnf
    go_wp2_with fail
    exact hR _ _ (results_seven rfl _ _ _) (.inl ⟨HN.out, _, _, _, _, _, _, rfl⟩)
  | true =>
    cases dot with
    | false =>
      have hF := HE.out.trans (show rfD s neg false ⟨m, tr, us, false, true, nd, nm, dp⟩ j = rfE s neg false ⟨m, tr, us, false, true, nd, nm, dp⟩ j ((nd : Int) * 1) (nm * 1) from rfl)
      rw [Int.mul_one, Nat.mul_one] at hF
      have HF := Lib.hid hF
      clear HE hF
      refine wp_seq ?_
      conv => arg 2; whnf
      go_wp2_with fail
      conv => arg 2; whnf
      go_wp2_with fail
      conv => arg 2; whnf
      go_wp2_with fail
      exact tail_dec s hs neg tr us m j _ _ _ rfl rfl rfl hj (by omega) (by omega) (by omega) w Q0 hR HF
    | true =>
      have hF := HE.out.trans (show rfD s neg false ⟨m, tr, us, true, true, nd, nm, dp⟩ j = rfE s neg false ⟨m, tr, us, true, true, nd, nm, dp⟩ j (dp * 1) (nm * 1) from rfl)
      rw [Int.mul_one, Nat.mul_one] at hF
      have HF := Lib.hid hF
      clear HE hF
      refine wp_seq ?_
      conv => arg 2; whnf
      go_wp2_with fail
      conv => arg 2; whnf
      go_wp2_with fail
      conv => arg 2; whnf
      go_wp2_with fail
      exact tail_dec s hs neg tr us m j _ _ _ rfl rfl rfl hj (by omega) (by omega) (by omega) w Q0 hR HF
end Go.Proofs.YtkaeaiagmihmgaaGreatDoor

namespace Go.Proofs.YtkaeaiagmihmgaaGreatDoor
open Go.RowKit

set_option maxRecDepth 1000000 in
set_option maxHeartbeats 3200000 in
theorem tail_hex (s : List UInt8) (hs : s.length ≤ 1000) (neg tr us : Bool) (m j nm : Nat) (dp : Int) (r : Rf) (hrm : r.m = m) (hrt : r.tr = tr) (hru : r.us = us) (hj : j ≤ s.length) (hd1 : -10000 ≤ dp) (hd2 : dp ≤ 10000) (hn : nm ≤ 1000000) (w : World) (Q0 : Exit → Act → World → Prop)
    (hR : ∀ (t : Array Value) (v : Value), (results Tryz.f127 t).run Tryz.prog w = .ok v w → RfPost s (.returned v) → Q0 .ret ⟨t, []⟩ w) (HF : Hid (rfM s = rfE s neg true r j dp nm)) {c1 c11 c13 c14 c15 c18 c19 c20 c21 c22 c23 c24 c25 c26 c27 c28 c29 c30 c31 c32 c33 c34 c35 c36 c37 c38 c39 c40 c41 c42 c43 c44 c45 c46 c47 c48 c49 c50 c51 c52 c53 c54 c55 c56 c57 c58 c59 c60 c61 c62 c63 c64 c65 c66 c67 c68 c69 c70 c71 c72 c73 c74 c75 c76 c77 c78 c79 c80 c81 c82 c83 c84 c85 c86 c87 c88 c89 c90 c91 c92 c93 c94 c95 c96 c97 c98 c99 c100 c101 c102 c103 c104 c105 c106 c107 c108 c109 c110 c111 c112 c113 c114 c115 c116 c117 c118 c119 c120 c121 c122 c123 c124 c125 c126 c127 c128 c129 c130 c131 c132 c133 c134 c135 c136 c137 c138 c139 c140 c141 c142 c143 c144 c145 c146 c147 c148 c149 c150 c151 c152 c153 c154 c155 c156 c157 c158 c159 c160 c161 c162 c163 c164 c165 c166 c167 c168 c169 c170 c171 c172 c173 c174 c175 c176 c177 c178 c179 c180 c181 c182 c183 c184 c185 c186 c187 c188 c189 c190 c191 c192 c193 c194 c195 c196 c197 c198 c199 c200 c201 c202 c203 c204 c205 c206 c207 c208 c209 c210 c211 c212 c213 c214 c215 c216 c217 c218 c219 c220 c221 c222 c223 c224 c225 c226 c227 c228 c229 c230 c231 c232 c233 c234 c235 c236 c237 c238 c239 c240 c241 c242 c243 c244 c245 c246 c247 c248 c249 c250 c251 c252 : Value} :
    Code.wp Tryz.prog rfT3 Q0 ⟨#[.string ⟨s.toArray⟩, c1, .int .u64 m, .int .i64 0, .bool neg, .bool tr, .bool true, .int .i64 j, .bool false, .bool us, .int .u64 16, c11, .int .u8 112, c13, c14, c15, .int .i64 nm, .int .i64 dp, c18, c19, c20, c21, c22, c23, c24, c25, c26, c27, c28, c29, c30, c31, c32, c33, c34, c35, c36, c37, c38, c39, c40, c41, c42, c43, c44, c45, c46, c47, c48, c49, c50, c51, c52, c53, c54, c55, c56, c57, c58, c59, c60, c61, c62, c63, c64, c65, c66, c67, c68, c69, c70, c71, c72, c73, c74, c75, c76, c77, c78, c79, c80, c81, c82, c83, c84, c85, c86, c87, c88, c89, c90, c91, c92, c93, c94, c95, c96, c97, c98, c99, c100, c101, c102, c103, c104, c105, c106, c107, c108, c109, c110, c111, c112, c113, c114, c115, c116, c117, c118, c119, c120, c121, c122, c123, c124, c125, c126, c127, c128, c129, c130, c131, c132, c133, c134, c135, c136, c137, c138, c139, c140, c141, c142, c143, c144, c145, c146, c147, c148, c149, c150, c151, c152, c153, c154, c155, c156, c157, c158, c159, c160, c161, c162, c163, c164, c165, c166, c167, c168, c169, c170, c171, c172, c173, c174, c175, c176, c177, c178, c179, c180, c181, c182, c183, c184, c185, c186, c187, c188, c189, c190, c191, c192, c193, c194, c195, c196, c197, c198, c199, c200, c201, c202, c203, c204, c205, c206, c207, c208, c209, c210, c211, c212, c213, c214, c215, c216, c217, c218, c219, c220, c221, c222, c223, c224, c225, c226, c227, c228, c229, c230, c231, c232, c233, c234, c235, c236, c237, c238, c239, c240, c241, c242, c243, c244, c245, c246, c247, c248, c249, c250, c251, c252], []⟩ w :=
  (wp_seq (x := rfExp) (y := rfEnd) (exp_hex s hs neg tr us m j nm dp r hrm hrt hru hj hd1 hd2 w (Code.wp Tryz.prog rfEnd Q0) Q0 hR HF (fun i' us' dp' h1 h2 h3 h4 => end_any s hs neg tr true us' m i' nm dp' h1 h2 h3 hn w Q0 hR h4)) :)

set_option maxRecDepth 1000000 in
set_option maxHeartbeats 3200000 in
theorem rest_hex (s : List UInt8) (hs : s.length ≤ 1000) (neg tr us dot dig : Bool) (m j nd nm : Nat) (dp : Int) (hj : j ≤ s.length) (HO : (⟨m, tr, us, dot, dig, nd, nm, dp⟩ : Rf).Ok j) (w : World) (Q0 : Exit → Act → World → Prop)
    (hR : ∀ (t : Array Value) (v : Value), (results Tryz.f127 t).run Tryz.prog w = .ok v w → RfPost s (.returned v) → Q0 .ret ⟨t, []⟩ w) (HE : Hid (rfM s = rfD s neg true ⟨m, tr, us, dot, dig, nd, nm, dp⟩ j)) {c1 c18 c19 c20 c21 c22 c23 c24 c25 c26 c27 c28 c29 c30 c31 c32 c33 c34 c35 c36 c37 c38 c39 c40 c41 c42 c43 c44 c45 c46 c47 c48 c49 c50 c51 c52 c53 c54 c55 c56 c57 c58 c59 c60 c61 c62 c63 c64 c65 c66 c67 c68 c69 c70 c71 c72 c73 c74 c75 c76 c77 c78 c79 c80 c81 c82 c83 c84 c85 c86 c87 c88 c89 c90 c91 c92 c93 c94 c95 c96 c97 c98 c99 c100 c101 c102 c103 c104 c105 c106 c107 c108 c109 c110 c111 c112 c113 c114 c115 c116 c117 c118 c119 c120 c121 c122 c123 c124 c125 c126 c127 c128 c129 c130 c131 c132 c133 c134 c135 c136 c137 c138 c139 c140 c141 c142 c143 c144 c145 c146 c147 c148 c149 c150 c151 c152 c153 c154 c155 c156 c157 c158 c159 c160 c161 c162 c163 c164 c165 c166 c167 c168 c169 c170 c171 c172 c173 c174 c175 c176 c177 c178 c179 c180 c181 c182 c183 c184 c185 c186 c187 c188 c189 c190 c191 c192 c193 c194 c195 c196 c197 c198 c199 c200 c201 c202 c203 c204 c205 c206 c207 c208 c209 c210 c211 c212 c213 c214 c215 c216 c217 c218 c219 c220 c221 c222 c223 c224 c225 c226 c227 c228 c229 c230 c231 c232 c233 c234 c235 c236 c237 c238 c239 c240 c241 c242 c243 c244 c245 c246 c247 c248 c249 c250 c251 c252 : Value} :
    Code.wp Tryz.prog rfRest Q0 ⟨#[.string ⟨s.toArray⟩, c1, .int .u64 m, .int .i64 0, .bool neg, .bool tr, .bool true, .int .i64 j, .bool false, .bool us, .int .u64 16, .int .i64 16, .int .u8 112, .bool dot, .bool dig, .int .i64 nd, .int .i64 nm, .int .i64 dp, c18, c19, c20, c21, c22, c23, c24, c25, c26, c27, c28, c29, c30, c31, c32, c33, c34, c35, c36, c37, c38, c39, c40, c41, c42, c43, c44, c45, c46, c47, c48, c49, c50, c51, c52, c53, c54, c55, c56, c57, c58, c59, c60, c61, c62, c63, c64, c65, c66, c67, c68, c69, c70, c71, c72, c73, c74, c75, c76, c77, c78, c79, c80, c81, c82, c83, c84, c85, c86, c87, c88, c89, c90, c91, c92, c93, c94, c95, c96, c97, c98, c99, c100, c101, c102, c103, c104, c105, c106, c107, c108, c109, c110, c111, c112, c113, c114, c115, c116, c117, c118, c119, c120, c121, c122, c123, c124, c125, c126, c127, c128, c129, c130, c131, c132, c133, c134, c135, c136, c137, c138, c139, c140, c141, c142, c143, c144, c145, c146, c147, c148, c149, c150, c151, c152, c153, c154, c155, c156, c157, c158, c159, c160, c161, c162, c163, c164, c165, c166, c167, c168, c169, c170, c171, c172, c173, c174, c175, c176, c177, c178, c179, c180, c181, c182, c183, c184, c185, c186, c187, c188, c189, c190, c191, c192, c193, c194, c195, c196, c197, c198, c199, c200, c201, c202, c203, c204, c205, c206, c207, c208, c209, c210, c211, c212, c213, c214, c215, c216, c217, c218, c219, c220, c221, c222, c223, c224, c225, c226, c227, c228, c229, c230, c231, c232, c233, c234, c235, c236, c237, c238, c239, c240, c241, c242, c243, c244, c245, c246, c247, c248, c249, c250, c251, c252], []⟩ w := by
  have k2 : nd ≤ j := HO.nd
  have k3 : nm ≤ nd := HO.nm
  have k4 : -(j : Int) ≤ dp := HO.lo
  have k5 : dp ≤ j := HO.hi
  clear HO
  show Code.wp _ (Code.seq rfS51 (Code.seq rfS52 (Code.seq rfS54 rfT3))) _ _ _
  cases dig with
  | false =>
    have HN := Lib.hid (HE.out.trans (show rfD s neg true ⟨m, tr, us, dot, false, nd, nm, dp⟩ j = none from rfl))
    refine wp_seq ?_
    conv => arg 2; whnf
    go_wp2_with fail
    exact hR _ _ (results_seven rfl _ _ _) (.inl ⟨HN.out, _, _, _, _, _, _, rfl⟩)
  | true =>
    cases dot with
    | false =>
      have hF := HE.out.trans (show rfD s neg true ⟨m, tr, us, false, true, nd, nm, dp⟩ j = rfE s neg true ⟨m, tr, us, false, true, nd, nm, dp⟩ j ((nd : Int) * 4) (nm * 4) from rfl)
      skip
      have HF := Lib.hid hF
      clear HE hF
      refine wp_seq ?_
      conv => arg 2; whnf
      go_wp2_with fail
      conv => arg 2; whnf
      go_wp2_with fail
      conv => arg 2; whnf
      go_wp2_with fail
      exact tail_hex s hs neg tr us m j _ _ _ rfl rfl rfl hj (by omega) (by omega) (by omega) w Q0 hR HF
    | true =>
      have hF := HE.out.trans (show rfD s neg true ⟨m, tr, us, true, true, nd, nm, dp⟩ j = rfE s neg true ⟨m, tr, us, true, true, nd, nm, dp⟩ j (dp * 4) (nm * 4) from rfl)
      skip
      have HF := Lib.hid hF
      clear HE hF
      refine wp_seq ?_
      conv => arg 2; whnf
      go_wp2_with fail
      conv => arg 2; whnf
      go_wp2_with fail
      conv => arg 2; whnf
      go_wp2_with fail
      exact tail_hex s hs neg tr us m j _ _ _ rfl rfl rfl hj (by omega) (by omega) (by omega) w Q0 hR HF
end Go.Proofs.YtkaeaiagmihmgaaGreatDoor

namespace Go.Proofs.YtkaeaiagmihmgaaGreatDoor
open Go.RowKit

set_option maxRecDepth 1000000 in
set_option maxHeartbeats 3200000 in
theorem readFloat_some (s : List UInt8) (hs : s.length ≤ 1000) (h0 : 0 < s.length) (w : World) :
    Calls Tryz.prog 127 #[.string ⟨s.toArray⟩] w fun e w' => RfPost s e ∧ w = w' := by
  have hix0 := fun (ww : World) => run_index_list (P := Tryz.prog) 9 s 0 0 _ Tryz.underlying9 rfl h0 rfl ww
  have hM : rfM s = if (s.getD 0 0).toNat = 43 then rfB s false 1 else if (s.getD 0 0).toNat = 45 then rfB s true 1 else rfB s false 0 := by unfold rfM; rw [if_neg (by omega)]
  obtain ⟨c, hc⟩ : ∃ c, (s.getD 0 0).toNat = c := ⟨_, rfl⟩
  rw [hc] at hix0 hM
  have HCC := Lib.hid hc
  have hnil : ¬ s = [] := fun e => by rw [e] at h0; exact absurd h0 (by decide)
  by_cases c43 : c = 43
  · have u1 : ((c : Int) == 43) = true := by simp; omega
    have hS := hM.trans (if_pos c43)
    clear hM hc
    have hB : rfM s = rfB s false 1 := hS
    by_cases g1 : 1 + 2 < s.length
    · have t1 : decide (((1 : Nat) : Int) + 2 < (s.length : Int)) = true := by simp; omega
      have t1' : decide (((1 : Int)) + 2 < (s.length : Int)) = true := by simp; omega
      have t1n : 3 < s.length := by omega
      have t1i : decide ((3 : Int) < (s.length : Int)) = true := by simp; omega
      have hi0 := fun (ww : World) => run_index_list (P := Tryz.prog) 9 s (1 : Int) 1 _ Tryz.underlying9 rfl (by omega) rfl ww
      have hi1 := fun (ww : World) => run_index_list (P := Tryz.prog) 9 s (2 : Int) 2 _ Tryz.underlying9 rfl (by omega) rfl ww
      have hb := (s.getD 2 0).toNat_lt
      unfold rfB at hB
      obtain ⟨a, ha⟩ : ∃ a, (s.getD 1 0).toNat = a := ⟨_, rfl⟩
      obtain ⟨b, hbe⟩ : ∃ b, (s.getD (1 + 1) 0).toNat = b := ⟨_, rfl⟩
      rw [ha] at hi0 hB
      have hbe' : (s.getD 2 0).toNat = b := hbe
      rw [hbe] at hB
      rw [hbe'] at hi1 hb
      clear ha hbe hbe'
      have hlow := lower_nat b hb
      by_cases g2 : a = 48
      · have t2 : ((a : Int) == 48) = true := by simp; omega
        obtain ⟨l, hl⟩ : ∃ l, low5 b = l := ⟨_, rfl⟩
        rw [hl] at hB hlow
        clear hl
        by_cases g3 : l = 120
        · have t3 : ((l : Int) == 120) = true := by simp; omega
          have HC := Lib.hid (hB.trans (if_pos ⟨g1, g2, g3⟩))
          clear hB hS g2 g3
          as_aux_lemma =>
            go_enter Tryz.func127, Tryz.ntmps127
            go_wp2_with fail
            go_step3
            go_upto_block 1 with (go_at_call 88; refine (Tryz.internal_strconv_lower _ _).mono ?_; rintro e w' ⟨rfl, hw'⟩; obtain rfl : w = w' := hw'.symm)
            go_step3
            go_upto_block 1 with fail
            rename_i KK hKK
            refine loop_hex s hs false 3 (by omega) w KK _ HC (fun m tr us dot dig nd nm dp j h1 h2 h3 => hKK _ _ ?_)
            refine rest_hex s hs false tr us dot dig m j nd nm dp h1 h2 w _ ?_ h3
            intro t v q1 q2
            exact bodyPost_ret (P := Tryz.prog) (fn := Tryz.f127) (R := fun e w' => RfPost s e ∧ w = w') (a := ⟨t, []⟩) q1 rfl ⟨q2, rfl⟩
        · have t3 : ((l : Int) == 120) = false := by simp; omega
          have HC := Lib.hid (hB.trans (if_neg (fun h => g3 h.2.2)))
          clear hB hS g2 g3
          as_aux_lemma =>
            go_enter Tryz.func127, Tryz.ntmps127
            go_wp2_with fail
            go_step3
            go_upto_block 1 with (go_at_call 88; refine (Tryz.internal_strconv_lower _ _).mono ?_; rintro e w' ⟨rfl, hw'⟩; obtain rfl : w = w' := hw'.symm)
            go_step3
            go_upto_block 1 with fail
            rename_i KK hKK
            refine loop_dec s hs false 1 (by omega) w KK _ HC (fun m tr us dot dig nd nm dp j h1 h2 h3 => hKK _ _ ?_)
            refine rest_dec s hs false tr us dot dig m j nd nm dp h1 h2 w _ ?_ h3
            intro t v q1 q2
            exact bodyPost_ret (P := Tryz.prog) (fn := Tryz.f127) (R := fun e w' => RfPost s e ∧ w = w') (a := ⟨t, []⟩) q1 rfl ⟨q2, rfl⟩
      · have t2 : ((a : Int) == 48) = false := by simp; omega
        have HC := Lib.hid (hB.trans (if_neg (fun h => g2 h.2.1)))
        clear hB hS g2
        as_aux_lemma =>
          go_enter Tryz.func127, Tryz.ntmps127
          go_wp2_with fail
          go_step3
          go_upto_block 1 with fail
          go_step3
          go_upto_block 1 with fail
          rename_i KK hKK
          refine loop_dec s hs false 1 (by omega) w KK _ HC (fun m tr us dot dig nd nm dp j h1 h2 h3 => hKK _ _ ?_)
          refine rest_dec s hs false tr us dot dig m j nd nm dp h1 h2 w _ ?_ h3
          intro t v q1 q2
          exact bodyPost_ret (P := Tryz.prog) (fn := Tryz.f127) (R := fun e w' => RfPost s e ∧ w = w') (a := ⟨t, []⟩) q1 rfl ⟨q2, rfl⟩
    · have t1 : decide (((1 : Nat) : Int) + 2 < (s.length : Int)) = false := by simp; omega
      have t1' : decide (((1 : Int)) + 2 < (s.length : Int)) = false := by simp; omega
      have t1n : ¬ 3 < s.length := by omega
      have t1i : decide ((3 : Int) < (s.length : Int)) = false := by simp; omega
      unfold rfB at hB
      have HC := Lib.hid (hB.trans (if_neg (fun h => g1 h.1)))
      clear hB hS
      as_aux_lemma =>
        go_enter Tryz.func127, Tryz.ntmps127
        go_wp2_with fail
        go_step3
        go_upto_block 1 with fail
        go_step3
        go_upto_block 1 with fail
        rename_i KK hKK
        refine loop_dec s hs false 1 (by omega) w KK _ HC (fun m tr us dot dig nd nm dp j h1 h2 h3 => hKK _ _ ?_)
        refine rest_dec s hs false tr us dot dig m j nd nm dp h1 h2 w _ ?_ h3
        intro t v q1 q2
        exact bodyPost_ret (P := Tryz.prog) (fn := Tryz.f127) (R := fun e w' => RfPost s e ∧ w = w') (a := ⟨t, []⟩) q1 rfl ⟨q2, rfl⟩
  · have u1 : ((c : Int) == 43) = false := by simp; omega
    by_cases c45 : c = 45
    · have u2 : ((c : Int) == 45) = true := by simp; omega
      have hS := hM.trans ((if_neg c43).trans (if_pos c45))
      clear hM hc
      have hB : rfM s = rfB s true 1 := hS
      by_cases g1 : 1 + 2 < s.length
      · have t1 : decide (((1 : Nat) : Int) + 2 < (s.length : Int)) = true := by simp; omega
        have t1' : decide (((1 : Int)) + 2 < (s.length : Int)) = true := by simp; omega
        have t1n : 3 < s.length := by omega
        have t1i : decide ((3 : Int) < (s.length : Int)) = true := by simp; omega
        have hi0 := fun (ww : World) => run_index_list (P := Tryz.prog) 9 s (1 : Int) 1 _ Tryz.underlying9 rfl (by omega) rfl ww
        have hi1 := fun (ww : World) => run_index_list (P := Tryz.prog) 9 s (2 : Int) 2 _ Tryz.underlying9 rfl (by omega) rfl ww
        have hb := (s.getD 2 0).toNat_lt
        unfold rfB at hB
        obtain ⟨a, ha⟩ : ∃ a, (s.getD 1 0).toNat = a := ⟨_, rfl⟩
        obtain ⟨b, hbe⟩ : ∃ b, (s.getD (1 + 1) 0).toNat = b := ⟨_, rfl⟩
        rw [ha] at hi0 hB
        have hbe' : (s.getD 2 0).toNat = b := hbe
        rw [hbe] at hB
        rw [hbe'] at hi1 hb
        clear ha hbe hbe'
        have hlow := lower_nat b hb
        by_cases g2 : a = 48
        · have t2 : ((a : Int) == 48) = true := by simp; omega
          obtain ⟨l, hl⟩ : ∃ l, low5 b = l := ⟨_, rfl⟩
          rw [hl] at hB hlow
          clear hl
          by_cases g3 : l = 120
          · have t3 : ((l : Int) == 120) = true := by simp; omega
            have HC := Lib.hid (hB.trans (if_pos ⟨g1, g2, g3⟩))
            clear hB hS g2 g3
            as_aux_lemma =>
              go_enter Tryz.func127, Tryz.ntmps127
              go_wp2_with fail
              go_step3
              go_upto_block 1 with (go_at_call 88; refine (Tryz.internal_strconv_lower _ _).mono ?_; rintro e w' ⟨rfl, hw'⟩; obtain rfl : w = w' := hw'.symm)
              go_step3
              go_upto_block 1 with fail
              rename_i KK hKK
              refine loop_hex s hs true 3 (by omega) w KK _ HC (fun m tr us dot dig nd nm dp j h1 h2 h3 => hKK _ _ ?_)
              refine rest_hex s hs true tr us dot dig m j nd nm dp h1 h2 w _ ?_ h3
              intro t v q1 q2
              exact bodyPost_ret (P := Tryz.prog) (fn := Tryz.f127) (R := fun e w' => RfPost s e ∧ w = w') (a := ⟨t, []⟩) q1 rfl ⟨q2, rfl⟩
          · have t3 : ((l : Int) == 120) = false := by simp; omega
            have HC := Lib.hid (hB.trans (if_neg (fun h => g3 h.2.2)))
            clear hB hS g2 g3
            as_aux_lemma =>
              go_enter Tryz.func127, Tryz.ntmps127
              go_wp2_with fail
              go_step3
              go_upto_block 1 with (go_at_call 88; refine (Tryz.internal_strconv_lower _ _).mono ?_; rintro e w' ⟨rfl, hw'⟩; obtain rfl : w = w' := hw'.symm)
              go_step3
              go_upto_block 1 with fail
              rename_i KK hKK
              refine loop_dec s hs true 1 (by omega) w KK _ HC (fun m tr us dot dig nd nm dp j h1 h2 h3 => hKK _ _ ?_)
              refine rest_dec s hs true tr us dot dig m j nd nm dp h1 h2 w _ ?_ h3
              intro t v q1 q2
              exact bodyPost_ret (P := Tryz.prog) (fn := Tryz.f127) (R := fun e w' => RfPost s e ∧ w = w') (a := ⟨t, []⟩) q1 rfl ⟨q2, rfl⟩
        · have t2 : ((a : Int) == 48) = false := by simp; omega
          have HC := Lib.hid (hB.trans (if_neg (fun h => g2 h.2.1)))
          clear hB hS g2
          as_aux_lemma =>
            go_enter Tryz.func127, Tryz.ntmps127
            go_wp2_with fail
            go_step3
            go_upto_block 1 with fail
            go_step3
            go_upto_block 1 with fail
            rename_i KK hKK
            refine loop_dec s hs true 1 (by omega) w KK _ HC (fun m tr us dot dig nd nm dp j h1 h2 h3 => hKK _ _ ?_)
            refine rest_dec s hs true tr us dot dig m j nd nm dp h1 h2 w _ ?_ h3
            intro t v q1 q2
            exact bodyPost_ret (P := Tryz.prog) (fn := Tryz.f127) (R := fun e w' => RfPost s e ∧ w = w') (a := ⟨t, []⟩) q1 rfl ⟨q2, rfl⟩
      · have t1 : decide (((1 : Nat) : Int) + 2 < (s.length : Int)) = false := by simp; omega
        have t1' : decide (((1 : Int)) + 2 < (s.length : Int)) = false := by simp; omega
        have t1n : ¬ 3 < s.length := by omega
        have t1i : decide ((3 : Int) < (s.length : Int)) = false := by simp; omega
        unfold rfB at hB
        have HC := Lib.hid (hB.trans (if_neg (fun h => g1 h.1)))
        clear hB hS
        as_aux_lemma =>
          go_enter Tryz.func127, Tryz.ntmps127
          go_wp2_with fail
          go_step3
          go_upto_block 1 with fail
          go_step3
          go_upto_block 1 with fail
          rename_i KK hKK
          refine loop_dec s hs true 1 (by omega) w KK _ HC (fun m tr us dot dig nd nm dp j h1 h2 h3 => hKK _ _ ?_)
          refine rest_dec s hs true tr us dot dig m j nd nm dp h1 h2 w _ ?_ h3
          intro t v q1 q2
          exact bodyPost_ret (P := Tryz.prog) (fn := Tryz.f127) (R := fun e w' => RfPost s e ∧ w = w') (a := ⟨t, []⟩) q1 rfl ⟨q2, rfl⟩
    · have u2 : ((c : Int) == 45) = false := by simp; omega
      have hS := hM.trans ((if_neg c43).trans (if_neg c45))
      clear hM hc
      have hB : rfM s = rfB s false 0 := hS
      by_cases g1 : 0 + 2 < s.length
      · have t1 : decide (((0 : Nat) : Int) + 2 < (s.length : Int)) = true := by simp; omega
        have t1' : decide (((0 : Int)) + 2 < (s.length : Int)) = true := by simp; omega
        have t1n : 2 < s.length := by omega
        have t1i : decide ((2 : Int) < (s.length : Int)) = true := by simp; omega
        have hi0 := fun (ww : World) => run_index_list (P := Tryz.prog) 9 s (0 : Int) 0 _ Tryz.underlying9 rfl (by omega) rfl ww
        have hi1 := fun (ww : World) => run_index_list (P := Tryz.prog) 9 s (1 : Int) 1 _ Tryz.underlying9 rfl (by omega) rfl ww
        have hb := (s.getD 1 0).toNat_lt
        unfold rfB at hB
        obtain ⟨b, hbe⟩ : ∃ b, (s.getD (0 + 1) 0).toNat = b := ⟨_, rfl⟩
        rw [HCC.out] at hB
        have hbe' : (s.getD 1 0).toNat = b := hbe
        rw [hbe] at hB
        rw [hbe'] at hi1 hb
        clear hi0 hbe hbe'
        have hlow := lower_nat b hb
        by_cases g2 : c = 48
        · have t2 : ((c : Int) == 48) = true := by simp; omega
          obtain ⟨l, hl⟩ : ∃ l, low5 b = l := ⟨_, rfl⟩
          rw [hl] at hB hlow
          clear hl
          by_cases g3 : l = 120
          · have t3 : ((l : Int) == 120) = true := by simp; omega
            have HC := Lib.hid (hB.trans (if_pos ⟨g1, g2, g3⟩))
            clear hB hS g2 g3
            as_aux_lemma =>
              go_enter Tryz.func127, Tryz.ntmps127
              go_wp2_with fail
              go_step3
              go_upto_block 1 with (go_at_call 88; refine (Tryz.internal_strconv_lower _ _).mono ?_; rintro e w' ⟨rfl, hw'⟩; obtain rfl : w = w' := hw'.symm)
              go_step3
              go_upto_block 1 with fail
              rename_i KK hKK
              refine loop_hex s hs false 2 (by omega) w KK _ HC (fun m tr us dot dig nd nm dp j h1 h2 h3 => hKK _ _ ?_)
              refine rest_hex s hs false tr us dot dig m j nd nm dp h1 h2 w _ ?_ h3
              intro t v q1 q2
              exact bodyPost_ret (P := Tryz.prog) (fn := Tryz.f127) (R := fun e w' => RfPost s e ∧ w = w') (a := ⟨t, []⟩) q1 rfl ⟨q2, rfl⟩
          · have t3 : ((l : Int) == 120) = false := by simp; omega
            have HC := Lib.hid (hB.trans (if_neg (fun h => g3 h.2.2)))
            clear hB hS g2 g3
            as_aux_lemma =>
              go_enter Tryz.func127, Tryz.ntmps127
              go_wp2_with fail
              go_step3
              go_upto_block 1 with (go_at_call 88; refine (Tryz.internal_strconv_lower _ _).mono ?_; rintro e w' ⟨rfl, hw'⟩; obtain rfl : w = w' := hw'.symm)
              go_step3
              go_upto_block 1 with fail
              rename_i KK hKK
              refine loop_dec s hs false 0 (by omega) w KK _ HC (fun m tr us dot dig nd nm dp j h1 h2 h3 => hKK _ _ ?_)
              refine rest_dec s hs false tr us dot dig m j nd nm dp h1 h2 w _ ?_ h3
              intro t v q1 q2
              exact bodyPost_ret (P := Tryz.prog) (fn := Tryz.f127) (R := fun e w' => RfPost s e ∧ w = w') (a := ⟨t, []⟩) q1 rfl ⟨q2, rfl⟩
        · have t2 : ((c : Int) == 48) = false := by simp; omega
          have HC := Lib.hid (hB.trans (if_neg (fun h => g2 h.2.1)))
          clear hB hS g2
          as_aux_lemma =>
            go_enter Tryz.func127, Tryz.ntmps127
            go_wp2_with fail
            go_step3
            go_upto_block 1 with fail
            go_step3
            go_upto_block 1 with fail
            rename_i KK hKK
            refine loop_dec s hs false 0 (by omega) w KK _ HC (fun m tr us dot dig nd nm dp j h1 h2 h3 => hKK _ _ ?_)
            refine rest_dec s hs false tr us dot dig m j nd nm dp h1 h2 w _ ?_ h3
            intro t v q1 q2
            exact bodyPost_ret (P := Tryz.prog) (fn := Tryz.f127) (R := fun e w' => RfPost s e ∧ w = w') (a := ⟨t, []⟩) q1 rfl ⟨q2, rfl⟩
      · have t1 : decide (((0 : Nat) : Int) + 2 < (s.length : Int)) = false := by simp; omega
        have t1' : decide (((0 : Int)) + 2 < (s.length : Int)) = false := by simp; omega
        have t1n : ¬ 2 < s.length := by omega
        have t1i : decide ((2 : Int) < (s.length : Int)) = false := by simp; omega
        unfold rfB at hB
        have HC := Lib.hid (hB.trans (if_neg (fun h => g1 h.1)))
        clear hB hS
        as_aux_lemma =>
          go_enter Tryz.func127, Tryz.ntmps127
          go_wp2_with fail
          go_step3
          go_upto_block 1 with fail
          go_step3
          go_upto_block 1 with fail
          rename_i KK hKK
          refine loop_dec s hs false 0 (by omega) w KK _ HC (fun m tr us dot dig nd nm dp j h1 h2 h3 => hKK _ _ ?_)
          refine rest_dec s hs false tr us dot dig m j nd nm dp h1 h2 w _ ?_ h3
          intro t v q1 q2
          exact bodyPost_ret (P := Tryz.prog) (fn := Tryz.f127) (R := fun e w' => RfPost s e ∧ w = w') (a := ⟨t, []⟩) q1 rfl ⟨q2, rfl⟩

set_option maxRecDepth 100000 in
set_option maxHeartbeats 400000 in
theorem readFloat_any (s : List UInt8) (hs : s.length ≤ 1000) (w : World) :
    Calls Tryz.prog 127 #[.string ⟨s.toArray⟩] w fun e w' => RfPost s e ∧ w = w' := by
  by_cases h0 : 0 < s.length
  · exact readFloat_some s hs h0 w
  · obtain rfl : s = [] := List.eq_nil_of_length_eq_zero (by omega)
    go_enter Tryz.func127, Tryz.ntmps127
    go_wp2_with fail
    go_step3
    go_wp2_with fail
    exact bodyPost_ret (P := Tryz.prog) (fn := Tryz.f127) (R := fun e w' => RfPost [] e ∧ w = w') (results_seven rfl _ _ _) rfl ⟨.inl ⟨rfl, _, _, _, _, _, _, rfl⟩, rfl⟩
end Go.Proofs.YtkaeaiagmihmgaaGreatDoor
