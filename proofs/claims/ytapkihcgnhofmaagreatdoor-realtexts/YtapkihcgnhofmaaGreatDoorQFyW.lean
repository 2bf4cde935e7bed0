/- strconv's readFloat: behind the digits' loop, base 16. -/
import Derived.Test.YtapkihcgnhofmaaGreatDoorQFyV
namespace Go.Proofs.YtapkihcgnhofmaaGreatDoor
open Go.RowKit

set_option maxRecDepth 1000000 in
set_option maxHeartbeats 3200000 in
theorem tail_hex (s : List UInt8) (hs : s.length ≤ 1000) (neg tr us : Bool) (m j nm : Nat) (dp : Int) (r : Rf) (hrm : r.m = m) (hrt : r.tr = tr) (hru : r.us = us) (hj : j ≤ s.length) (hd1 : -10000 ≤ dp) (hd2 : dp ≤ 10000) (hn : nm ≤ 1000000) (w : World) (Q0 : Exit → Act → World → Prop)
    (hR : ∀ (t : Array Value) (v : Value), (results Tryz.f83 t).run Tryz.prog w = .ok v w → RfPost s (.returned v) → Q0 .ret ⟨t, []⟩ w) (HF : Hid (rfM s = rfE s neg true r j dp nm)) {c1 c11 c13 c14 c15 c18 c19 c20 c21 c22 c23 c24 c25 c26 c27 c28 c29 c30 c31 c32 c33 c34 c35 c36 c37 c38 c39 c40 c41 c42 c43 c44 c45 c46 c47 c48 c49 c50 c51 c52 c53 c54 c55 c56 c57 c58 c59 c60 c61 c62 c63 c64 c65 c66 c67 c68 c69 c70 c71 c72 c73 c74 c75 c76 c77 c78 c79 c80 c81 c82 c83 c84 c85 c86 c87 c88 c89 c90 c91 c92 c93 c94 c95 c96 c97 c98 c99 c100 c101 c102 c103 c104 c105 c106 c107 c108 c109 c110 c111 c112 c113 c114 c115 c116 c117 c118 c119 c120 c121 c122 c123 c124 c125 c126 c127 c128 c129 c130 c131 c132 c133 c134 c135 c136 c137 c138 c139 c140 c141 c142 c143 c144 c145 c146 c147 c148 c149 c150 c151 c152 c153 c154 c155 c156 c157 c158 c159 c160 c161 c162 c163 c164 c165 c166 c167 c168 c169 c170 c171 c172 c173 c174 c175 c176 c177 c178 c179 c180 c181 c182 c183 c184 c185 c186 c187 c188 c189 c190 c191 c192 c193 c194 c195 c196 c197 c198 c199 c200 c201 c202 c203 c204 c205 c206 c207 c208 c209 c210 c211 c212 c213 c214 c215 c216 c217 c218 c219 c220 c221 c222 c223 c224 c225 c226 c227 c228 c229 c230 c231 c232 c233 c234 c235 c236 c237 c238 c239 c240 c241 c242 c243 c244 c245 c246 c247 c248 c249 c250 c251 c252 : Value} :
    Code.wp Tryz.prog rfT3 Q0 ⟨#[.string ⟨s.toArray⟩, c1, .int .u64 m, .int .i64 0, .bool neg, .bool tr, .bool true, .int .i64 j, .bool false, .bool us, .int .u64 16, c11, .int .u8 112, c13, c14, c15, .int .i64 nm, .int .i64 dp, c18, c19, c20, c21, c22, c23, c24, c25, c26, c27, c28, c29, c30, c31, c32, c33, c34, c35, c36, c37, c38, c39, c40, c41, c42, c43, c44, c45, c46, c47, c48, c49, c50, c51, c52, c53, c54, c55, c56, c57, c58, c59, c60, c61, c62, c63, c64, c65, c66, c67, c68, c69, c70, c71, c72, c73, c74, c75, c76, c77, c78, c79, c80, c81, c82, c83, c84, c85, c86, c87, c88, c89, c90, c91, c92, c93, c94, c95, c96, c97, c98, c99, c100, c101, c102, c103, c104, c105, c106, c107, c108, c109, c110, c111, c112, c113, c114, c115, c116, c117, c118, c119, c120, c121, c122, c123, c124, c125, c126, c127, c128, c129, c130, c131, c132, c133, c134, c135, c136, c137, c138, c139, c140, c141, c142, c143, c144, c145, c146, c147, c148, c149, c150, c151, c152, c153, c154, c155, c156, c157, c158, c159, c160, c161, c162, c163, c164, c165, c166, c167, c168, c169, c170, c171, c172, c173, c174, c175, c176, c177, c178, c179, c180, c181, c182, c183, c184, c185, c186, c187, c188, c189, c190, c191, c192, c193, c194, c195, c196, c197, c198, c199, c200, c201, c202, c203, c204, c205, c206, c207, c208, c209, c210, c211, c212, c213, c214, c215, c216, c217, c218, c219, c220, c221, c222, c223, c224, c225, c226, c227, c228, c229, c230, c231, c232, c233, c234, c235, c236, c237, c238, c239, c240, c241, c242, c243, c244, c245, c246, c247, c248, c249, c250, c251, c252], []⟩ w :=
  (wp_seq (x := rfExp) (y := rfEnd) (exp_hex s hs neg tr us m j nm dp r hrm hrt hru hj hd1 hd2 w (Code.wp Tryz.prog rfEnd Q0) Q0 hR HF (fun i' us' dp' h1 h2 h3 h4 => end_any s hs neg tr true us' m i' nm dp' h1 h2 h3 hn w Q0 hR h4)) :)

set_option maxRecDepth 1000000 in
set_option maxHeartbeats 3200000 in
theorem rest_hex (s : List UInt8) (hs : s.length ≤ 1000) (neg tr us dot dig : Bool) (m j nd nm : Nat) (dp : Int) (hj : j ≤ s.length) (HO : (⟨m, tr, us, dot, dig, nd, nm, dp⟩ : Rf).Ok j) (w : World) (Q0 : Exit → Act → World → Prop)
    (hR : ∀ (t : Array Value) (v : Value), (results Tryz.f83 t).run Tryz.prog w = .ok v w → RfPost s (.returned v) → Q0 .ret ⟨t, []⟩ w) (HE : Hid (rfM s = rfD s neg true ⟨m, tr, us, dot, dig, nd, nm, dp⟩ j)) {c1 c18 c19 c20 c21 c22 c23 c24 c25 c26 c27 c28 c29 c30 c31 c32 c33 c34 c35 c36 c37 c38 c39 c40 c41 c42 c43 c44 c45 c46 c47 c48 c49 c50 c51 c52 c53 c54 c55 c56 c57 c58 c59 c60 c61 c62 c63 c64 c65 c66 c67 c68 c69 c70 c71 c72 c73 c74 c75 c76 c77 c78 c79 c80 c81 c82 c83 c84 c85 c86 c87 c88 c89 c90 c91 c92 c93 c94 c95 c96 c97 c98 c99 c100 c101 c102 c103 c104 c105 c106 c107 c108 c109 c110 c111 c112 c113 c114 c115 c116 c117 c118 c119 c120 c121 c122 c123 c124 c125 c126 c127 c128 c129 c130 c131 c132 c133 c134 c135 c136 c137 c138 c139 c140 c141 c142 c143 c144 c145 c146 c147 c148 c149 c150 c151 c152 c153 c154 c155 c156 c157 c158 c159 c160 c161 c162 c163 c164 c165 c166 c167 c168 c169 c170 c171 c172 c173 c174 c175 c176 c177 c178 c179 c180 c181 c182 c183 c184 c185 c186 c187 c188 c189 c190 c191 c192 c193 c194 c195 c196 c197 c198 c199 c200 c201 c202 c203 c204 c205 c206 c207 c208 c209 c210 c211 c212 c213 c214 c215 c216 c217 c218 c219 c220 c221 c222 c223 c224 c225 c226 c227 c228 c229 c230 c231 c232 c233 c234 c235 c236 c237 c238 c239 c240 c241 c242 c243 c244 c245 c246 c247 c248 c249 c250 c251 c252 : Value} :
    Code.wp Tryz.prog rfRest Q0 ⟨#[.string ⟨s.toArray⟩, c1, .int .u64 m, .int .i64 0, .bool neg, .bool tr, .bool true, .int .i64 j, .bool false, .bool us, .int .u64 16, .int .i64 16, .int .u8 112, .bool dot, .bool dig, .int .i64 nd, .int .i64 nm, .int .i64 dp, c18, c19, c20, c21, c22, c23, c24, c25, c26, c27, c28, c29, c30, c31, c32, c33, c34, c35, c36, c37, c38, c39, c40, c41, c42, c43, c44, c45, c46, c47, c48, c49, c50, c51, c52, c53, c54, c55, c56, c57, c58, c59, c60, c61, c62, c63, c64, c65, c66, c67, c68, c69, c70, c71, c72, c73, c74, c75, c76, c77, c78, c79, c80, c81, c82, c83, c84, c85, c86, c87, c88, c89, c90, c91, c92, c93, c94, c95, c96, c97, c98, c99, c100, c101, c102, c103, c104, c105, c106, c107, c108, c109, c110, c111, c112, c113, c114, c115, c116, c117, c118, c119, c120, c121, c122, c123, c124, c125, c126, c127, c128, c129, c130, c131, c132, c133, c134, c135, c136, c137, c138, c139, c140, c141, c142, c143, c144, c145, c146, c147, c148, c149, c150, c151, c152, c153, c154, c155, c156, c157, c158, c159, c160, c161, c162, c163, c164, c165, c166, c167, c168, c169, c170, c171, c172, c173, c174, c175, c176, c177, c178, c179, c180, c181, c182, c183, c184, c185, c186, c187, c188, c189, c190, c191, c192, c193, c194, c195, c196, c197, c198, c199, c200, c201, c202, c203, c204, c205, c206, c207, c208, c209, c210, c211, c212, c213, c214, c215, c216, c217, c218, c219, c220, c221, c222, c223, c224, c225, c226, c227, c228, c229, c230, c231, c232, c233, c234, c235, c236, c237, c238, c239, c240, c241, c242, c243, c244, c245, c246, c247, c248, c249, c250, c251, c252], []⟩ w := by
  have k2 : nd ≤ j := HO.nd
  have k3 : nm ≤ nd := HO.nm
  have k4 : -(j : Int) ≤ dp := HO.lo
  have k5 : dp ≤ j := HO.hi
  clear HO
  show Code.wp _ (Code.seq rfS51 (Code.seq rfS52 (Code.seq rfS54 rfT3))) _ _ _
  cases dig with
  | false =>
    have HN := Lib.hid (HE.out.trans (show rfD s neg true ⟨m, tr, us, dot, false, nd, nm, dp⟩ j = none from rfl))
    refine wp_seq ?_
    conv => arg 2; whnf
    go_wp2_with fail
    exact hR _ _ (results_seven rfl _ _ _) (.inl ⟨HN.out, _, _, _, _, _, _, rfl⟩)
  | true =>
    cases dot with
    | false =>
      have hF := HE.out.trans (show rfD s neg true ⟨m, tr, us, false, true, nd, nm, dp⟩ j = rfE s neg true ⟨m, tr, us, false, true, nd, nm, dp⟩ j ((nd : Int) * 4) (nm * 4) from rfl)
      skip
      have HF := Lib.hid hF
      clear HE hF
      refine wp_seq ?_
      conv => arg 2; whnf
      go_wp2_with fail
      conv => arg 2; whnf
      go_wp2_with fail
      conv => arg 2; whnf
      go_wp2_with fail
      exact tail_hex s hs neg tr us m j _ _ _ rfl rfl rfl hj (by omega) (by omega) (by omega) w Q0 hR HF
    | true =>
      have hF := HE.out.trans (show rfD s neg true ⟨m, tr, us, true, true, nd, nm, dp⟩ j = rfE s neg true ⟨m, tr, us, true, true, nd, nm, dp⟩ j (dp * 4) (nm * 4) from rfl)
      skip
      have HF := Lib.hid hF
      clear HE hF
      refine wp_seq ?_
      conv => arg 2; whnf
      go_wp2_with fail
      conv => arg 2; whnf
      go_wp2_with fail
      conv => arg 2; whnf
      go_wp2_with fail
      exact tail_hex s hs neg tr us m j _ _ _ rfl rfl rfl hj (by omega) (by omega) (by omega) w Q0 hR HF
end Go.Proofs.YtapkihcgnhofmaaGreatDoor
