/- The slow decimal road: floatBits' code, cut; a scope with two labels ahead; its end, walked. -/
import Derived.Test.YtapkihcgnhofmaaGreatDoorQDcX
import Derived.ScopeJumps
import Derived.WalkMore
namespace Go.Proofs.YtapkihcgnhofmaaGreatDoor
open Go.RowKit

def IsBits (e : Ending) : Prop := ∃ (n : Nat) (b : Bool), n < 18446744073709551616 ∧ e = .returned (.tuple #[.int .u64 (n : Int), .bool b])
theorem IsBits.mk {z : Int} (b : Bool) (h0 : 0 ≤ z) (h1 : z < 18446744073709551616) : IsBits (.returned (.tuple #[.int .u64 z, .bool b])) := ⟨z.toNat, b, by omega, by rw [show ((z.toNat : Nat) : Int) = z by omega]⟩

/-- As Q; by a goto: what J says of its label. -/
def Exit.jumpTo (J : Nat → Act → World → Prop) (Q : Exit → Act → World → Prop) : Exit → Act → World → Prop
  | .goto l, a, w => J l a w
  | e, a, w => Q e a w
/-- A scope that is left by no goto but one to either of two labels, each further on. -/
theorem wp_scope_two {P : Program} {a : Act} {w : World} {Q : Exit → Act → World → Prop} {c r1 r2 : Code} (l1 l2 : Nat) (h1 : findLabel c l1 = some r1) (h2 : findLabel c l2 = some r2)
    (first : c.wp P (Exit.jumpTo (fun l a w => (l = l1 ∧ r1.wp P (Exit.jumpTo (fun l a w => l = l2 ∧ r2.wp P (Exit.noGoto Q) a w) Q) a w) ∨ (l = l2 ∧ r2.wp P (Exit.noGoto Q) a w)) Q) a w) : (Code.scope c).wp P Q a w := by
  intro b k cs
  have g1 : gotoIn l1 (.inScope c :: k) = some (.code r1 :: .inScope c :: k) := by simp [gotoIn, h1]
  have g2 : gotoIn l2 (.inScope c :: k) = some (.code r2 :: .inScope c :: k) := by simp [gotoIn, h2]
  have k2 : ∀ a w, r2.wp P (Exit.noGoto Q) a w → ∃ e a' w', Q e a' w' ∧ Arrives P (lone (b.at a (.code r2 :: .inScope c :: k)) cs w) b k cs e a' w' := by
    intro a w h
    obtain ⟨e, a₁, w₁, hq, harr⟩ := h b (.inScope c :: k) cs
    cases e with
    | normal => exact ⟨.normal, a₁, w₁, hq, Steps.trans harr (.one step_inScope)⟩
    | exit id => exact ⟨.exit id, a₁, w₁, hq, fun k' hk => harr k' (by simp [exitTo, hk])⟩
    | goto l => exact hq.elim
    | ret => exact ⟨_, a₁, w₁, hq, harr⟩
    | panic ch => exact ⟨_, a₁, w₁, hq, harr⟩
    | outgrown => exact ⟨_, a₁, w₁, hq, harr⟩
  have k1 : ∀ a w, r1.wp P (Exit.jumpTo (fun l a w => l = l2 ∧ r2.wp P (Exit.noGoto Q) a w) Q) a w → ∃ e a' w', Q e a' w' ∧ Arrives P (lone (b.at a (.code r1 :: .inScope c :: k)) cs w) b k cs e a' w' := by
    intro a w h
    obtain ⟨e, a₁, w₁, hq, harr⟩ := h b (.inScope c :: k) cs
    cases e with
    | normal => exact ⟨.normal, a₁, w₁, hq, Steps.trans harr (.one step_inScope)⟩
    | exit id => exact ⟨.exit id, a₁, w₁, hq, fun k' hk => harr k' (by simp [exitTo, hk])⟩
    | goto l =>
      obtain ⟨rfl, hJ⟩ := hq
      obtain ⟨e₂, a₂, w₂, hq₂, harr₂⟩ := k2 a₁ w₁ hJ
      exact ⟨e₂, a₂, w₂, hq₂, .of_steps (harr _ g2) harr₂⟩
    | ret => exact ⟨_, a₁, w₁, hq, harr⟩
    | panic ch => exact ⟨_, a₁, w₁, hq, harr⟩
    | outgrown => exact ⟨_, a₁, w₁, hq, harr⟩
  obtain ⟨e, a₁, w₁, hq, harr⟩ := first b (.inScope c :: k) cs
  cases e with
  | normal => exact ⟨.normal, a₁, w₁, hq, .head step_scope (Steps.trans harr (.one step_inScope))⟩
  | exit id => exact ⟨.exit id, a₁, w₁, hq, fun k' hk => .head step_scope (harr k' (by simp [exitTo, hk]))⟩
  | goto l =>
    rcases hq with ⟨rfl, hJ⟩ | ⟨rfl, hJ⟩
    · obtain ⟨e₂, a₂, w₂, hq₂, harr₂⟩ := k1 a₁ w₁ hJ
      exact ⟨e₂, a₂, w₂, hq₂, .of_steps (.head step_scope (harr _ g1)) harr₂⟩
    · obtain ⟨e₂, a₂, w₂, hq₂, harr₂⟩ := k2 a₁ w₁ hJ
      exact ⟨e₂, a₂, w₂, hq₂, .of_steps (.head step_scope (harr _ g2)) harr₂⟩
  | ret => exact ⟨_, a₁, w₁, hq, .of_steps (.one step_scope) harr⟩
  | panic ch => exact ⟨_, a₁, w₁, hq, .of_steps (.one step_scope) harr⟩
  | outgrown => exact ⟨_, a₁, w₁, hq, .of_steps (.one step_scope) harr⟩

theorem results_two {fn : Func} {a b : Tmp} (h : fn.results = #[.tmp a, .tmp b]) (tmps : Array Value) (P : Program) (w : World) :
    (results fn tmps).run P w = .ok (.tuple #[tmps.getD a undef, tmps.getD b undef]) w := by
  simp [results, h]
def tailF : Nat → Code → Code
  | 0, c => c
  | n + 1, .seq _ b => tailF n b
  | _, c => c
def bare : Code → Code
  | .scope c => c
  | c => c
noncomputable def fbCode : Code := bare (tailF 1 ((Tryz.f90.body).getD .skip))
noncomputable def fbOut : Code := tailF 21 fbCode
noncomputable def fbOver : Code := tailF 17 fbCode
theorem fb_out : findLabel fbCode 0 = some (.seq .skip fbOut) := by kernel_rfl
theorem fb_over : findLabel fbCode 1 = some (.seq .skip fbOver) := by kernel_rfl

theorem dx_and_u64 (a b : Int) : ∃ n : Nat, bits .and .u64 a b = n ∧ n < 18446744073709551616 := by
  have : 0 ≤ bits .and .u64 a b ∧ bits .and .u64 a b < 18446744073709551616 := by
    show 0 ≤ IntKind.u64.wrap ((BitVec.ofInt 64 a &&& BitVec.ofInt 64 b).toNat : Int) ∧ IntKind.u64.wrap ((BitVec.ofInt 64 a &&& BitVec.ofInt 64 b).toNat : Int) < _
    exact wrap_word _
  exact ⟨(bits .and .u64 a b).toNat, by omega, by omega⟩
theorem dx_or_u64 (a b : Int) : ∃ n : Nat, bits .or .u64 a b = n ∧ n < 18446744073709551616 := by
  have : 0 ≤ bits .or .u64 a b ∧ bits .or .u64 a b < 18446744073709551616 := by
    show 0 ≤ IntKind.u64.wrap ((BitVec.ofInt 64 a ||| BitVec.ofInt 64 b).toNat : Int) ∧ IntKind.u64.wrap ((BitVec.ofInt 64 a ||| BitVec.ofInt 64 b).toNat : Int) < _
    exact wrap_word _
  exact ⟨(bits .or .u64 a b).toNat, by omega, by omega⟩
theorem dx_and_i64 (a : Int) : ∃ n : Nat, bits .and .i64 a 2047 = n ∧ n < 2048 := by
  have h : (BitVec.ofInt 64 a &&& BitVec.ofInt 64 2047).toNat < 2048 := by
    rw [BitVec.toNat_and]
    exact Nat.and_lt_two_pow (n := 11) _ (by decide)
  refine ⟨_, ?_, h⟩
  show IntKind.i64.wrap ((BitVec.ofInt 64 a &&& BitVec.ofInt 64 2047).toNat : Int) = _
  rw [IntKind.wrap_i64]
  omega
theorem dx_wrap (z : Int) : ∃ n : Nat, IntKind.u64.wrap z = n ∧ n < 18446744073709551616 := ⟨(IntKind.u64.wrap z).toNat, by have := wrap_word z; omega, by have := wrap_word z; omega⟩

/-- The shape of a 64-bit float at block fb. -/
structure Shape (w : World) (fb : Nat) : Prop where
  mant : w.cell? ⟨fb, 0, none⟩ = some (.int .u64 52)
  exp : w.cell? ⟨fb, 1, none⟩ = some (.int .u64 11)
  bias : w.cell? ⟨fb, 2, none⟩ = some (.int .i64 (-1023))
theorem Shape.keep {w w' : World} {fb : Nat} (h : Shape w fb) (k : w'.heap[fb]? = w.heap[fb]?) : Shape w' fb :=
  ⟨(World.cell?_of_block k).trans h.mant, (World.cell?_of_block k).trans h.exp, (World.cell?_of_block k).trans h.bias⟩

set_option maxRecDepth 1000000 in
set_option maxHeartbeats 3200000 in
theorem out_any (g fb : Nat) (ov : Bool) (ex : Int) (hex : -10000000 ≤ ex ∧ ex ≤ 10000000) (mt : Nat) (F : Nat → Nat) (nd : Int) (dp : Int) (neg trunc : Bool) (w : World) (hD : Dec w g F nd dp neg trunc) (hS : Shape w fb) (Q0 : Exit → Act → World → Prop)
    (hR : ∀ (t : Array Value) (n : Nat) (v : Value), (results Tryz.f90 t).run Tryz.prog (w.drewN n) = .ok v (w.drewN n) → IsBits (.returned v) → Q0 .ret ⟨t, []⟩ (w.drewN n)) {c2 c3 c4 c8 c9 c10 c11 c12 c13 c14 c15 c16 c17 c18 c19 c20 c21 c22 c23 c24 c25 c26 c27 c28 c29 c30 c31 c32 c33 c34 c35 c36 c37 c38 c39 c40 c41 c42 c43 c44 c45 c46 c47 c48 c49 c50 c51 c52 c53 c54 c55 c56 c57 c58 c59 c60 c61 c62 c63 c64 c65 c66 c67 c68 c69 c70 c71 c72 c73 c74 c75 c76 c77 c78 c79 c80 c81 c82 c83 c84 c85 c86 c87 c88 c89 c90 c91 c92 c93 c94 c95 c96 c97 c98 c99 c100 c101 c102 c103 c104 c105 c106 c107 c108 c109 c110 c111 c112 c113 c114 c115 c116 c117 c118 c119 c120 c121 c122 c123 c124 c125 c126 c127 c128 c129 c130 c131 c132 c133 c134 c135 c136 c137 c138 c139 c140 c141 c142 c143 c144 c145 c146 c147 c148 c149 c150 c151 c152 c153 c154 c155 c156 c157 c158 c159 c160 c161 c162 c163 c164 c165 c166 c167 c168 c169 c170 c171 c172 c173 c174 c175 c176 c177 c178 c179 c180 c181 c182 c183 c184 c185 c186 c187 c188 c189 c190 c191 c192 c193 c194 c195 c196 c197 c198 c199 c200 c201 c202 c203 c204 c205 c206 c207 c208 c209 c210 c211 c212 c213 c214 c215 c216 c217 c218 c219 c220 c221 c222 c223 c224 c225 c226 c227 c228 c229 c230 c231 c232 c233 c234 c235 c236 c237 c238 c239 c240 c241 c242 : Value} :
    Code.wp Tryz.prog fbOut Q0 ⟨#[.pointer (some ⟨g, 0, none⟩), .pointer (some ⟨fb, 0, none⟩), c2, c3, c4, .bool ov, .int .i64 ex, .int .u64 (mt : Int), c8, c9, c10, c11, c12, c13, c14, c15, c16, c17, c18, c19, c20, c21, c22, c23, c24, c25, c26, c27, c28, c29, c30, c31, c32, c33, c34, c35, c36, c37, c38, c39, c40, c41, c42, c43, c44, c45, c46, c47, c48, c49, c50, c51, c52, c53, c54, c55, c56, c57, c58, c59, c60, c61, c62, c63, c64, c65, c66, c67, c68, c69, c70, c71, c72, c73, c74, c75, c76, c77, c78, c79, c80, c81, c82, c83, c84, c85, c86, c87, c88, c89, c90, c91, c92, c93, c94, c95, c96, c97, c98, c99, c100, c101, c102, c103, c104, c105, c106, c107, c108, c109, c110, c111, c112, c113, c114, c115, c116, c117, c118, c119, c120, c121, c122, c123, c124, c125, c126, c127, c128, c129, c130, c131, c132, c133, c134, c135, c136, c137, c138, c139, c140, c141, c142, c143, c144, c145, c146, c147, c148, c149, c150, c151, c152, c153, c154, c155, c156, c157, c158, c159, c160, c161, c162, c163, c164, c165, c166, c167, c168, c169, c170, c171, c172, c173, c174, c175, c176, c177, c178, c179, c180, c181, c182, c183, c184, c185, c186, c187, c188, c189, c190, c191, c192, c193, c194, c195, c196, c197, c198, c199, c200, c201, c202, c203, c204, c205, c206, c207, c208, c209, c210, c211, c212, c213, c214, c215, c216, c217, c218, c219, c220, c221, c222, c223, c224, c225, c226, c227, c228, c229, c230, c231, c232, c233, c234, c235, c236, c237, c238, c239, c240, c241, c242], []⟩ w := by
  conv => arg 2; whnf
  have s0 := hS.mant
  have s1 := hS.exp
  have s2 := hS.bias
  obtain ⟨n1, e1, b1⟩ := dx_and_u64 (mt : Int) 4503599627370495
  have w1 : IntKind.i64.wrap (ex + 1023) = ex + 1023 := by rw [IntKind.wrap_i64]; omega
  obtain ⟨n2, e2, b2⟩ := dx_and_i64 (ex + 1023)
  have w2 : IntKind.u64.wrap (n2 : Int) = (n2 : Int) := by rw [IntKind.wrap_u64]; omega
  obtain ⟨n3, e3, b3⟩ := dx_wrap ((n2 : Int) * 4503599627370496)
  obtain ⟨n4, e4, b4⟩ := dx_or_u64 (n1 : Int) (n3 : Int)
  obtain ⟨n5, e5, b5⟩ := dx_or_u64 (n4 : Int) 9223372036854775808
  have HR := Lib.hid hR
  clear hR
  go_wp2_with fail
  go_quiet (fail)
  have t0 : (w.drewN nq).cell? ⟨fb, 0, none⟩ = some (.int .u64 52) := s0
  have t1 : (w.drewN nq).cell? ⟨fb, 1, none⟩ = some (.int .u64 11) := s1
  have t2 : (w.drewN nq).cell? ⟨g, 802, none⟩ = some (.bool neg) := hD.cG
  obtain ⟨qa, hqa⟩ : ∃ q, w.drewN nq = w.drewN q := ⟨nq, rfl⟩
  have HA := Lib.hid hqa
  clear hqa s0 s1 s2
  generalize w.drewN nq = w2 at t0 t1 t2 HA ⊢
  cases neg with
  | false =>
    go_wp2_with fail
    rw [HA.out]
    refine HR.out _ _ (.tuple #[.int .u64 (n4 : Int), .bool ov]) ?_ (IsBits.mk _ (by omega) (by omega))
    exact results_two (fn := Tryz.f90) (a := 4) (b := 5) rfl _ _ _
  | true =>
    go_wp2_with fail
    go_quiet (fail)
    have HB : Hid (w2.drewN nq = w.drewN (qa + nq)) := Lib.hid (by rw [HA.out, drewN_add])
    generalize w2.drewN nq = w3 at HB ⊢
    go_wp2_with fail
    rw [HB.out]
    refine HR.out _ _ (.tuple #[.int .u64 (n5 : Int), .bool ov]) ?_ (IsBits.mk _ (by omega) (by omega))
    exact results_two (fn := Tryz.f90) (a := 4) (b := 5) rfl _ _ _

set_option maxRecDepth 1000000 in
set_option maxHeartbeats 3200000 in
theorem over_any (g fb : Nat) (F : Nat → Nat) (nd : Int) (dp : Int) (neg trunc : Bool) (w : World) (hD : Dec w g F nd dp neg trunc) (hS : Shape w fb) (Q0 : Exit → Act → World → Prop)
    (hR : ∀ (t : Array Value) (n : Nat) (v : Value), (results Tryz.f90 t).run Tryz.prog (w.drewN n) = .ok v (w.drewN n) → IsBits (.returned v) → Q0 .ret ⟨t, []⟩ (w.drewN n)) {c2 c3 c4 c5 c6 c7 c8 c9 c10 c11 c12 c13 c14 c15 c16 c17 c18 c19 c20 c21 c22 c23 c24 c25 c26 c27 c28 c29 c30 c31 c32 c33 c34 c35 c36 c37 c38 c39 c40 c41 c42 c43 c44 c45 c46 c47 c48 c49 c50 c51 c52 c53 c54 c55 c56 c57 c58 c59 c60 c61 c62 c63 c64 c65 c66 c67 c68 c69 c70 c71 c72 c73 c74 c75 c76 c77 c78 c79 c80 c81 c82 c83 c84 c85 c86 c87 c88 c89 c90 c91 c92 c93 c94 c95 c96 c97 c98 c99 c100 c101 c102 c103 c104 c105 c106 c107 c108 c109 c110 c111 c112 c113 c114 c115 c116 c117 c118 c119 c120 c121 c122 c123 c124 c125 c126 c127 c128 c129 c130 c131 c132 c133 c134 c135 c136 c137 c138 c139 c140 c141 c142 c143 c144 c145 c146 c147 c148 c149 c150 c151 c152 c153 c154 c155 c156 c157 c158 c159 c160 c161 c162 c163 c164 c165 c166 c167 c168 c169 c170 c171 c172 c173 c174 c175 c176 c177 c178 c179 c180 c181 c182 c183 c184 c185 c186 c187 c188 c189 c190 c191 c192 c193 c194 c195 c196 c197 c198 c199 c200 c201 c202 c203 c204 c205 c206 c207 c208 c209 c210 c211 c212 c213 c214 c215 c216 c217 c218 c219 c220 c221 c222 c223 c224 c225 c226 c227 c228 c229 c230 c231 c232 c233 c234 c235 c236 c237 c238 c239 c240 c241 c242 : Value} :
    Code.wp Tryz.prog fbOver Q0 ⟨#[.pointer (some ⟨g, 0, none⟩), .pointer (some ⟨fb, 0, none⟩), c2, c3, c4, c5, c6, c7, c8, c9, c10, c11, c12, c13, c14, c15, c16, c17, c18, c19, c20, c21, c22, c23, c24, c25, c26, c27, c28, c29, c30, c31, c32, c33, c34, c35, c36, c37, c38, c39, c40, c41, c42, c43, c44, c45, c46, c47, c48, c49, c50, c51, c52, c53, c54, c55, c56, c57, c58, c59, c60, c61, c62, c63, c64, c65, c66, c67, c68, c69, c70, c71, c72, c73, c74, c75, c76, c77, c78, c79, c80, c81, c82, c83, c84, c85, c86, c87, c88, c89, c90, c91, c92, c93, c94, c95, c96, c97, c98, c99, c100, c101, c102, c103, c104, c105, c106, c107, c108, c109, c110, c111, c112, c113, c114, c115, c116, c117, c118, c119, c120, c121, c122, c123, c124, c125, c126, c127, c128, c129, c130, c131, c132, c133, c134, c135, c136, c137, c138, c139, c140, c141, c142, c143, c144, c145, c146, c147, c148, c149, c150, c151, c152, c153, c154, c155, c156, c157, c158, c159, c160, c161, c162, c163, c164, c165, c166, c167, c168, c169, c170, c171, c172, c173, c174, c175, c176, c177, c178, c179, c180, c181, c182, c183, c184, c185, c186, c187, c188, c189, c190, c191, c192, c193, c194, c195, c196, c197, c198, c199, c200, c201, c202, c203, c204, c205, c206, c207, c208, c209, c210, c211, c212, c213, c214, c215, c216, c217, c218, c219, c220, c221, c222, c223, c224, c225, c226, c227, c228, c229, c230, c231, c232, c233, c234, c235, c236, c237, c238, c239, c240, c241, c242], []⟩ w := by
  conv => arg 2; whnf
  have s0 := hS.mant
  have s1 := hS.exp
  have s2 := hS.bias
  have HR := Lib.hid hR
  clear hR
  go_wp2_with fail
  go_quiet (fail)
  have hD2 : Dec (w.drewN nq) g F nd dp neg trunc := hD.keep rfl
  have hS2 : Shape (w.drewN nq) fb := hS.keep rfl
  obtain ⟨qa, hqa⟩ : ∃ q, w.drewN nq = w.drewN q := ⟨nq, rfl⟩
  have HA := Lib.hid hqa
  clear hqa s0 s1 s2
  generalize w.drewN nq = w2 at hD2 hS2 HA ⊢
  go_upto_region 42 with fail
  go_step3
  rename_i KK hKK
  exact hKK _ _ (out_any g fb true 1024 (by omega) 0 F nd dp neg trunc w2 hD2 hS2 Q0 (fun t n v h1 h2 => by rw [HA.out, drewN_add] at h1 ⊢; exact HR.out _ _ _ h1 h2))
end Go.Proofs.YtapkihcgnhofmaaGreatDoor
