/- The walks of the reference's Plain, Signed, Int, Str, Bool (layer 1). -/
/- The reference's bytes of values and expressions. -/
import Derived.Test.YtnhalfdddcjicaaGreatQJao
import Derived.Test.YtnhalfdddcjicaaGreatQJaf
import Derived.Deep.RegionHeld3
import Derived.StillTailTactics
namespace Go.Proofs.YtnhalfdddcjicaaGreat
open Go.RowKit

set_option maxRecDepth 100000 in
set_option maxHeartbeats 400000 in
theorem refPlain_any (n : Int) (hI : I64 n) (w : World) :
    Calls Tryz.prog 66 #[.int .i64 n] w fun e w' => e = .returned (.int .u64 (Lib.zigzag n)) ∧ w = w' := by
  by_cases hn : 0 ≤ n
  · go_enter Tryz.func66, Tryz.ntmps66
    go_wp2
    go_ret
    refine ⟨ret_int ?_, rfl⟩
    rw [Lib.zigzag_nonneg hn, IntKind.wrap_u64, IntKind.wrap_u64]
    have := hI.2; omega
  · have hn1 : n < 0 := by omega
    have h1 := hI.1
    go_enter Tryz.func66, Tryz.ntmps66
    go_wp2
    go_ret
    refine ⟨ret_int ?_, rfl⟩
    unfold Lib.zigzag
    rw [if_neg (by omega)]
    omega

theorem half_w (u : Nat) (h : U64 u) : IntKind.u64.wrap ((u : Int) / 2) = (u : Int) / 2 := by
  unfold U64 at h
  rw [IntKind.wrap_u64]; omega

set_option maxHeartbeats 400000 in
set_option maxRecDepth 100000 in
theorem refInt_any (n : Int) (hI : I64 n) (w : World) :
    Calls Tryz.prog 31 #[.int .i64 n] w fun e w' => e = .returned (.string ⟨(enc n).toArray⟩) ∧ Below w.heap.size w w' := by
  have hzl : (Lib.uvarint (Lib.zigzag n)).length ≤ 10 := uvarint_len (Lib.zigzag_lt hI.1 hI.2)
  go_enter Tryz.func31, Tryz.ntmps31
  go_wp2_with fail
  refine (refPlain_any n hI _).mono ?_
  rintro e w' ⟨rfl, rfl⟩
  go_wp2_with fail
  go_loopw [3, 4] (fun t s wr => ∃ (u : Nat) (ys : List UInt8), t = .int .u64 u ∧ U64 u ∧ s = .string ⟨ys.toArray⟩ ∧ ys.length ≤ 10 ∧ Hid (ys ++ Lib.uvarint u = Lib.uvarint (Lib.zigzag n)) ∧ Below w.heap.size w wr) (fun t _ _ => (intOf t).toNat)
  case atStart => exact ⟨_, [], rfl, Lib.zigzag_lt hI.1 hI.2, rfl, by simp, rfl, Below.refl _ _⟩
  case round =>
    obtain ⟨u, ys, rfl, hu, rfl, hyl, hy, hbl⟩ := hrel
    by_cases hlt : u < 128
    · obtain ⟨c, hc⟩ : ∃ c, u.toUInt8 = c := ⟨_, rfl⟩
      have hcv := conv_one (P := Tryz.prog) wr 80 9 5 Tryz.underlying80 Tryz.underlying5 Tryz.underlying9 u (by omega) u rfl
      rw [hc] at hcv
      have HC := Lib.hid hc
      clear hc
      go_wp2_with fail
      go_ret
      refine ⟨?_, hbl.alloc hbl.size _⟩
      have e : enc n = ys ++ [c] := by unfold enc; rw [← hy.out, Lib.uvarint_small (by omega), HC.out]
      rw [e]
      exact congrArg (fun x => Ending.returned (Value.string x)) (ByteArray.mk_append_mk ys [c])
    · obtain ⟨c, hc⟩ : ∃ c, (u % 128 + 128).toUInt8 = c := ⟨_, rfl⟩
      have hcv := conv_one (P := Tryz.prog) wr 80 9 5 Tryz.underlying80 Tryz.underlying5 Tryz.underlying9 (u % 128 + 128) (by omega) (128 + (u : Int) % 128) (by omega)
      rw [hc] at hcv
      have HC := Lib.hid hc
      clear hc
      go_wp2_with fail
      have hw : IntKind.u64.wrap ((u : Int) / 128) = ((u / 128 : Nat) : Int) := by unfold U64 at hu; rw [IntKind.wrap_u64]; omega
      have hy2 : (ys ++ [c]) ++ Lib.uvarint (u / 128) = Lib.uvarint (Lib.zigzag n) := by
        have := hy.out
        rw [Lib.uvarint_big (by omega), HC.out] at this
        rw [← this]; simp
      have hp := Lib.uvarint_pos (u / 128)
      have hl2 := congrArg List.length hy2
      rw [List.length_append] at hl2
      rw [hw]
      refine ⟨⟨u / 128, ys ++ [c], rfl, ?_, ?_, by omega, hy2, hbl.alloc hbl.size _⟩, by simp [intOf]; omega⟩
      · unfold U64 at hu ⊢; omega
      · exact congrArg Value.string (ByteArray.mk_append_mk ys [c])

set_option maxRecDepth 100000 in
set_option maxHeartbeats 400000 in
theorem refStr_any (s : List UInt8) (hs : s.length ≤ 1000000000) (w : World) :
    Calls Tryz.prog 32 #[.string ⟨s.toArray⟩] w fun e w' => e = .returned (.string ⟨(encS s).toArray⟩) ∧ Below w.heap.size w w' := by
  have hI : I64 (s.length : Int) := by unfold I64; omega
  have hl := enc_len hI
  go_enter Tryz.func32, Tryz.ntmps32
  go_wp2_with fail
  refine (refInt_any s.length hI _).mono ?_
  rintro e w1 ⟨rfl, hb⟩
  go_wp2_with fail
  go_ret
  refine ⟨?_, hb⟩
  exact congrArg (fun x => Ending.returned (Value.string x)) (ByteArray.mk_append_mk _ _)

set_option maxRecDepth 100000 in
set_option maxHeartbeats 400000 in
theorem refBool_any (b : Bool) (w : World) :
    Calls Tryz.prog 33 #[.bool b] w fun e w' => e = .returned (.string ⟨(encB b).toArray⟩) ∧ Below w.heap.size w w' := by
  cases b with
  | true =>
    go_enter Tryz.func33, Tryz.ntmps33
    go_wp2_with fail
    refine (refInt_any 1 (by unfold I64; omega) _).mono ?_
    rintro e w1 ⟨rfl, hb⟩
    go_wp2_with fail
    go_ret
    exact ⟨rfl, hb⟩
  | false =>
    go_enter Tryz.func33, Tryz.ntmps33
    go_wp2_with fail
    refine (refInt_any 0 (by unfold I64; omega) _).mono ?_
    rintro e w1 ⟨rfl, hb⟩
    go_wp2_with fail
    go_ret
    exact ⟨rfl, hb⟩
end Go.Proofs.YtnhalfdddcjicaaGreat

namespace Go.Proofs.YtnhalfdddcjicaaGreat
open Go.RowKit

theorem encS_lenB {t : List UInt8} (h : t.length ≤ 100000000) : (encS t).length ≤ 10 + t.length := by
  have := enc_len (n := (t.length : Int)) (by unfold I64; omega)
  unfold encS
  rw [List.length_append]
  omega
theorem encS_ge (t : List UInt8) : t.length ≤ (encS t).length := by unfold encS; rw [List.length_append]; omega

theorem held3s {w w' : World} {A : Nat} {k n : Int} {t : List UInt8} (h : At w A 27 #[.int .i64 k, .int .i64 n, .string ⟨t.toArray⟩]) (hb : Below w.heap.size w w') :
    At w' A 27 #[.int .i64 k, .int .i64 n, .string ⟨t.toArray⟩] ∧ (w'.cell? ⟨A, 0, none⟩ = some (.int .i64 k) ∧ w'.cell? ⟨A, 1, none⟩ = some (.int .i64 n) ∧ w'.cell? ⟨A, 2, none⟩ = some (.string ⟨t.toArray⟩)) := by
  have hA := h.below hb h.lt
  exact ⟨hA, At.cell hA 0, At.cell hA 1, At.cell hA 2⟩

set_option maxRecDepth 100000 in
set_option maxHeartbeats 1600000 in
theorem rvalB_any (x : Vl) (w : World) (hx : x.Ok) (ht : x.text.length ≤ 100000000) :
    Calls Tryz.prog 67 #[x.val] w fun e w' => e = .returned (.string ⟨(bytesV x).toArray⟩) ∧ Below w.heap.size w w' := by
  obtain ⟨k, n, t⟩ := x
  have i1 := hx.kind
  have i2 := hx.num
  simp only at i1 i2 ht
  have e1 := enc_len i1
  have e2 := enc_len i2
  have e3 := encS_lenB ht
  have I1 := Lib.hid i1
  have I2 := Lib.hid i2
  have q1 : (enc k).length + (enc n).length ≤ 9223372036854775807 := by omega
  have q2 : (enc k).length + (enc n).length + (encS t).length ≤ 9223372036854775807 := by omega
  have q3 : ¬ 9223372036854775807 < (enc k).length + (enc n).length := by omega
  have q4 : ¬ 9223372036854775807 < (enc k).length + (enc n).length + (encS t).length := by omega
  have hB : Hid (bytesV ⟨k, n, t⟩ = enc k ++ enc n ++ encS t) := rfl
  clear hx i1 i2
  show Calls _ _ #[.agg #[.int .i64 k, .int .i64 n, .string ⟨t.toArray⟩]] w _
  have hA := At.fresh w 27 #[.int .i64 k, .int .i64 n, .string ⟨t.toArray⟩]
  have hb := below_box w (.cells #[.int .i64 k, .int .i64 n, .string ⟨t.toArray⟩] 27)
  have hD : Below (w.alloc (.cells #[.int .i64 k, .int .i64 n, .string ⟨t.toArray⟩] 27)).heap.size (w.alloc (.cells #[.int .i64 k, .int .i64 n, .string ⟨t.toArray⟩] 27)) (w.alloc (.cells #[.int .i64 k, .int .i64 n, .string ⟨t.toArray⟩] 27)).drew := (Below.refl _ _).drew
  obtain ⟨hAD, S0⟩ := held3s hA hD
  have hbD := below_in hb hD
  clear hA hD hb
  go_enter Tryz.func67, Tryz.ntmps67
  go_wp2_with fail
  generalize (w.alloc (.cells #[.int .i64 k, .int .i64 n, .string ⟨t.toArray⟩] 27)) = wb at *
  go_region_held3 (fun w' => w'.cell? ⟨w.heap.size, 0, none⟩ = some (.int .i64 k) ∧ w'.cell? ⟨w.heap.size, 1, none⟩ = some (.int .i64 n) ∧ w'.cell? ⟨w.heap.size, 2, none⟩ = some (.string ⟨t.toArray⟩))
    (first | exact S0 | exact S1 | exact S2 | exact S3)
    (first
      | (go_at_call_of 31 k; refine (refInt_any k I1.out wb.drew).mono ?_; rintro e w3 ⟨rfl, b3⟩; obtain ⟨hA3, S1⟩ := held3s hAD b3; have hb3 := below_in hbD b3)
      | (go_at_call_of 31 n; refine (refInt_any n I2.out w3).mono ?_; rintro e w4 ⟨rfl, b4⟩; obtain ⟨hA4, S2⟩ := held3s hA3 b4; have hb4 := below_in hb3 b4)
      | (go_at_call 32; refine (refStr_any t (by omega) w4).mono ?_; rintro e w5 ⟨rfl, b5⟩; obtain ⟨hA5, S3⟩ := held3s hA4 b5; have hb5 := below_in hb4 b5))
  all_goals
    go_wp2_with fail
    go_ret
    refine ⟨?_, hb5⟩
    rw [hB.out]
    exact congrArg (fun x => Ending.returned (Value.string x)) ((congrArg (· ++ ByteArray.mk (encS t).toArray) (ByteArray.mk_append_mk (enc k) (enc n))).trans (ByteArray.mk_append_mk (enc k ++ enc n) (encS t)))


/-- The bytes of the first k of a row of trees. -/
theorem flat_step {α : Type} (f : α → List UInt8) (g : Nat → α) (k : Nat) : (((List.range (k + 1)).map g).map f).flatten = (((List.range k).map g).map f).flatten ++ f (g k) := by
  rw [List.range_succ]
  simp
theorem flat_le {α : Type} (f : α → List UInt8) (g : Nat → α) {k n : Nat} (h : k ≤ n) : (((List.range k).map g).map f).flatten.length ≤ (((List.range n).map g).map f).flatten.length := by
  induction n with
  | zero => obtain rfl : k = 0 := by omega
            exact Nat.le_refl _
  | succ n ih =>
    by_cases hk : k = n + 1
    · subst hk; exact Nat.le_refl _
    · rw [flat_step]
      have := ih (by omega)
      rw [List.length_append]; omega
theorem flat_ge {α : Type} (f : α → List UInt8) (g : Nat → α) {k n : Nat} (h : k < n) : (f (g k)).length ≤ (((List.range n).map g).map f).flatten.length := by
  have := flat_le f g (k := k + 1) (n := n) (by omega)
  rw [flat_step, List.length_append] at this
  omega
theorem encE_tree (op col : Int) (v : Vl) (A : Option Addr) (n cap : Nat) (arg : Nat → Ex) : encE (treeE (.mk op col v A n cap arg)) = enc op ++ enc col ++ bytesV v ++ enc (n : Int) ++ (((List.range n).map fun j => treeE (arg j)).map encE).flatten := by
  rw [treeE, encE_is]
  simp [List.append_assoc]
theorem held6s {w w' : World} {A : Nat} {op col k n : Int} {t : List UInt8} {s : Value} (h : At w A 67 #[.int .i64 op, .int .i64 col, .int .i64 k, .int .i64 n, .string ⟨t.toArray⟩, s]) (hb : Below w.heap.size w w') :
    At w' A 67 #[.int .i64 op, .int .i64 col, .int .i64 k, .int .i64 n, .string ⟨t.toArray⟩, s] ∧ (w'.cell? ⟨A, 0, none⟩ = some (.int .i64 op) ∧ w'.cell? ⟨A, 1, none⟩ = some (.int .i64 col) ∧ w'.cell? ⟨A, 2, none⟩ = some (.int .i64 k) ∧ w'.cell? ⟨A, 3, none⟩ = some (.int .i64 n) ∧ w'.cell? ⟨A, 4, none⟩ = some (.string ⟨t.toArray⟩) ∧ w'.cell? ⟨A, 5, none⟩ = some s) := by
  have hA := h.below hb h.lt
  exact ⟨hA, At.cell hA 0, At.cell hA 1, At.cell hA 2, At.cell hA 3, At.cell hA 4, At.cell hA 5⟩

set_option maxRecDepth 100000 in
set_option maxHeartbeats 3200000 in
theorem rexpr_any (e : Ex) : ∀ (w : World), InE w e → (encE (treeE e)).length ≤ 100000000 → Calls Tryz.prog 34 #[e.val] w fun en w' => en = .returned (.string ⟨(encE (treeE e)).toArray⟩) ∧ Below w.heap.size w w' := by
  induction e with
  | nil => intro w h; exact h.elim
  | mk op col v A n cap arg ih =>
    intro w ha hl
    rw [InE] at ha
    obtain ⟨i1, i2, hv, hn, harg⟩ := ha
    unfold maxLen at hn
    have hE := encE_tree op col v A n cap arg
    have hI : I64 (n : Int) := by unfold I64; omega
    rw [hE] at hl ⊢
    clear hE
    obtain ⟨vk, vn, vt⟩ := v
    have ht : (encS vt).length ≤ 100000000 := by
      simp only [List.length_append, bytesV] at hl
      omega
    have ht2 := encS_ge vt
    have HV := Lib.hid hv
    have I1 := Lib.hid i1
    have I2 := Lib.hid i2
    have I3 := Lib.hid hI
    obtain ⟨B, hB⟩ : ∃ B, bytesV ⟨vk, vn, vt⟩ = B := ⟨_, rfl⟩
    have hvB := fun w' => rvalB_any ⟨vk, vn, vt⟩ w' HV.out (by show vt.length ≤ _; omega)
    rw [hB] at hvB hl ⊢
    have HL := Lib.hid hl
    simp only [List.length_append] at hl
    have q1 : (enc op).length + (enc col).length ≤ 9223372036854775807 := by omega
    have q2 : (enc op).length + (enc col).length + B.length ≤ 9223372036854775807 := by omega
    have q3 : (enc op).length + (enc col).length + B.length + (enc (n : Int)).length ≤ 9223372036854775807 := by omega
    have q4 : ¬ 9223372036854775807 < (enc op).length + (enc col).length := by omega
    have q5 : ¬ 9223372036854775807 < (enc op).length + (enc col).length + B.length := by omega
    have q6 : ¬ 9223372036854775807 < (enc op).length + (enc col).length + B.length + (enc (n : Int)).length := by omega
    simp only [Ex.val, Ex.op, Ex.col, Ex.v, Ex.A, Ex.n, Ex.cap]
    have hA := At.fresh w 67 #[.int .i64 op, .int .i64 col, .int .i64 vk, .int .i64 vn, .string ⟨vt.toArray⟩, .slice A n cap]
    have hb := below_box w (.cells #[.int .i64 op, .int .i64 col, .int .i64 vk, .int .i64 vn, .string ⟨vt.toArray⟩, .slice A n cap] 67)
    have hD : Below (w.alloc (.cells #[.int .i64 op, .int .i64 col, .int .i64 vk, .int .i64 vn, .string ⟨vt.toArray⟩, .slice A n cap] 67)).heap.size (w.alloc (.cells #[.int .i64 op, .int .i64 col, .int .i64 vk, .int .i64 vn, .string ⟨vt.toArray⟩, .slice A n cap] 67)) (w.alloc (.cells #[.int .i64 op, .int .i64 col, .int .i64 vk, .int .i64 vn, .string ⟨vt.toArray⟩, .slice A n cap] 67)).drew := (Below.refl _ _).drew
    obtain ⟨hAD, S0⟩ := held6s hA hD
    have hbD := below_in hb hD
    clear hA hD hb i1 i2 hI hv ht ht2
    go_enter Tryz.func34, Tryz.ntmps34
    go_wp2_with fail
    generalize (w.alloc (.cells #[.int .i64 op, .int .i64 col, .int .i64 vk, .int .i64 vn, .string ⟨vt.toArray⟩, .slice A n cap] 67)) = wb at *
    go_region_held3 (fun w' => w'.cell? ⟨w.heap.size, 0, none⟩ = some (.int .i64 op) ∧ w'.cell? ⟨w.heap.size, 1, none⟩ = some (.int .i64 col) ∧ w'.cell? ⟨w.heap.size, 2, none⟩ = some (.int .i64 vk) ∧ w'.cell? ⟨w.heap.size, 3, none⟩ = some (.int .i64 vn) ∧ w'.cell? ⟨w.heap.size, 4, none⟩ = some (.string ⟨vt.toArray⟩) ∧ w'.cell? ⟨w.heap.size, 5, none⟩ = some (.slice A n cap))
      (first | exact S0 | exact S1 | exact S2 | exact S3 | exact S4)
      (first
        | (go_at_call_of 31 op; refine (refInt_any op I1.out wb.drew).mono ?_; rintro e w3 ⟨rfl, b3⟩; obtain ⟨hA3, S1⟩ := held6s hAD b3; have hb3 := below_in hbD b3)
        | (go_at_call_of 31 col; refine (refInt_any col I2.out w3).mono ?_; rintro e w4 ⟨rfl, b4⟩; obtain ⟨hA4, S2⟩ := held6s hA3 b4; have hb4 := below_in hb3 b4)
        | (go_at_call 67; refine (hvB w4).mono ?_; rintro e w5 ⟨rfl, b5⟩; obtain ⟨hA5, S3⟩ := held6s hA4 b5; have hb5 := below_in hb4 b5)
        | (go_at_call_of 31 (n : Int); refine (refInt_any n I3.out w5).mono ?_; rintro e w6 ⟨rfl, b6⟩; obtain ⟨hA6, S4⟩ := held6s hA5 b6; have hb6 := below_in hb5 b6))
    all_goals
      go_wp2_with fail
      generalize hH0 : enc op ++ enc col ++ B ++ enc (n : Int) = H at *
      have hS0 : Value.string ({ data := (enc op).toArray } ++ { data := (enc col).toArray } ++ { data := B.toArray } ++ { data := (enc (n : Int)).toArray }) = .string ⟨H.toArray⟩ := by
        rw [← hH0]
        exact congrArg Value.string ((congrArg (· ++ ByteArray.mk (enc (n : Int)).toArray) ((congrArg (· ++ ByteArray.mk B.toArray) (ByteArray.mk_append_mk (enc op) (enc col))).trans (ByteArray.mk_append_mk (enc op ++ enc col) B))).trans (ByteArray.mk_append_mk (enc op ++ enc col ++ B) (enc (n : Int))))
      have HH := Lib.hid hH0
      clear S0 S1 S2 S3 S4 hAD hA3 hA4 hA5 hA6 hbD hb3 hb4 hb5 b3 b4 b5 b6 q1 q2 q3 q4 q5 q6 hvB hB hl I1 I2 I3 HV hH0
      go_loopw [3, 25] (fun s i wr => ∃ (k : Nat) (y : List UInt8), k ≤ n ∧ i = .int .i64 k ∧ s = .string ⟨y.toArray⟩ ∧ Hid (y = H ++ (((List.range k).map fun j => treeE (arg j)).map encE).flatten) ∧ Below w.heap.size w wr) (fun _ i _ => n - (intOf i).toNat)
      case atStart => exact ⟨0, H, by omega, rfl, hS0, show _ = _ by simp, hb6⟩
      case round =>
        obtain ⟨k, y, hk, rfl, rfl, HY, hbw⟩ := hrel
        clear hS0
        by_cases hlt : k < n
        · obtain ⟨b, off, rfl, hbl, hcell⟩ := harg (by omega)
          obtain ⟨x0, x1, x2, x3, x4, x5⟩ := (hcell k hlt).1.keep fun i => hbw.cell (p := ⟨b, i, none⟩) hbl
          have hi := (hcell k hlt).2.below hbw
          have hge := flat_ge encE (fun j => treeE (arg j)) hlt
          have hle := flat_le encE (fun j => treeE (arg j)) (k := k + 1) (n := n) (by omega)
          have hHL := HL.out
          rw [List.length_append] at hHL
          have hc := fun w' (b' : Below wr.heap.size wr w') => ih k w' (hi.below b') (by omega)
          have hst := flat_step encE (fun j => treeE (arg j)) k
          have hy2 : y ++ encE (treeE (arg k)) = H ++ (((List.range (k + 1)).map fun j => treeE (arg j)).map encE).flatten := by rw [hst, HY.out, List.append_assoc]
          have hyl : (y ++ encE (treeE (arg k))).length ≤ 100000000 := by rw [hy2, List.length_append]; omega
          rw [List.length_append] at hyl
          have HK := Lib.hid hy2
          clear hy2 hst hge hle hHL
          unfold Ex.val at hc
          clear ih hcell harg hi
          go_wp2_with fail
          have b0 := below_box wr (.cells #[.int .i64 (arg k).op, .int .i64 (arg k).col, .int .i64 (arg k).v.kind, .int .i64 (arg k).v.num, .string ⟨(arg k).v.text.toArray⟩, .slice (arg k).A (arg k).n (arg k).cap] 67)
          refine (hc _ b0).mono ?_
          rintro e w2 ⟨rfl, b2⟩
          have hb2 := below_in hbw (below_in b0 b2)
          clear hc b0 b2 x0 x1 x2 x3 x4 x5
          generalize encE (treeE (arg k)) = x at *
          go_wp2_with fail
          exact ⟨⟨k + 1, y ++ x, by omega, by go_num, congrArg Value.string (ByteArray.mk_append_mk y x), HK, hb2⟩, by simp [intOf]; omega⟩
        · obtain rfl : n = k := by omega
          go_wp2_with fail
          go_ret
          exact ⟨ret_s (by rw [HY.out, ← HH.out]), hbw⟩
end Go.Proofs.YtnhalfdddcjicaaGreat
