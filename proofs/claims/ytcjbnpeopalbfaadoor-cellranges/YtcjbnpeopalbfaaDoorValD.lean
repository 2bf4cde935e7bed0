/- The walk of the reference's Key (layer 3). -/
import Derived.Test.YtcjbnpeopalbfaaDoorValC
namespace Go.Proofs.YtcjbnpeopalbfaaDoor
open Go.RowKit

theorem take_more (t : List UInt8) (j : Nat) (h : j < t.length) : t.take (j + 1) = t.take j ++ [t.getD j 0] := by
  rw [List.take_succ_eq_append_getElem h, List.getD_eq_getElem?_getD, List.getElem?_eq_getElem h]; rfl
theorem mid_one (t : List UInt8) (j : Nat) (h : j < t.length) : (t.drop j).take 1 = [t.getD j 0] := by
  rw [List.drop_eq_getElem_cons h, List.getD_eq_getElem?_getD, List.getElem?_eq_getElem h]; rfl

set_option maxRecDepth 100000 in
set_option maxHeartbeats 1600000 in
theorem rkey_any (v : Vl) (hv : v.Ok) (w : World) :
    Calls Tryd.prog 29 #[v.val] w fun e w' => e = .returned (.string ⟨(keyV v).toArray⟩) ∧ Below w.heap.size w w' := by
  cases hg : goodV v with
  | false =>
    have hK := Lib.hid (keyV_bad hg)
    obtain ⟨k, n, t⟩ := v
    have HV := Lib.hid hv
    show Calls _ _ #[.agg #[.int .i64 k, .int .i64 n, .string ⟨t.toArray⟩]] w _
    clear hv
    go_enter Tryd.func29, Tryd.ntmps29
    go_wp2_with fail
    refine (rgood_any ⟨k, n, t⟩ HV.out _).mono ?_
    rintro e w1 ⟨rfl, b1⟩
    rw [hg]
    obtain ⟨hA, hb⟩ := boxed k n t b1
    clear b1
    go_wp2
    go_ret
    exact ⟨ret_s hK.out.symm, hb⟩
  | true =>
    have hcase := (goodV_iff v).1 hg
    have HV := Lib.hid hv
    rcases hcase with ⟨hk, h1, h2⟩ | ⟨hk, h1⟩ | ⟨hk, h1, h2⟩ | ⟨hk, h1, h2⟩
    · have hK := Lib.hid (keyV_null hk hg)
      obtain ⟨k, n, t⟩ := v
      simp only at hk
      subst hk
      show Calls _ _ #[.agg #[.int .i64 0, .int .i64 n, .string ⟨t.toArray⟩]] w _
      clear hv h1 h2
      go_enter Tryd.func29, Tryd.ntmps29
      go_wp2_with fail
      refine (rgood_any ⟨0, n, t⟩ HV.out _).mono ?_
      rintro e w1 ⟨rfl, b1⟩
      rw [hg]
      obtain ⟨hA, hb⟩ := boxed 0 n t b1
      clear b1
      have c0 : w1.cell? ⟨w.heap.size, 0, none⟩ = some (.int .i64 0) := At.cell hA 0
      have hcv := conv_one (P := Tryd.prog) w1 51 9 5 Tryd.underlying51 Tryd.underlying5 Tryd.underlying9 0 (by omega) 0 (by omega)
      have hA2 := hA.alloc (.cells #[.int .u8 0] 5)
      have d0 := At.cell hA2 0
      go_wp2
      go_ret
      exact ⟨ret_s hK.out.symm, hb.alloc hb.size _⟩
    · have hK := Lib.hid (keyV_int hk hg)
      have hx := turned_sum hv.num
      have hl := turned_lt hv.num
      have h8 := bigE_len 8 (turned v.num)
      obtain ⟨k, n, t⟩ := v
      simp only at hk
      subst hk
      show Calls _ _ #[.agg #[.int .i64 1, .int .i64 n, .string ⟨t.toArray⟩]] w _
      clear hv h1
      simp only at hx hl h8
      go_enter Tryd.func29, Tryd.ntmps29
      go_wp2_with fail
      refine (rgood_any ⟨1, n, t⟩ HV.out _).mono ?_
      rintro e w1 ⟨rfl, b1⟩
      rw [hg]
      obtain ⟨hA, hb⟩ := boxed 1 n t b1
      clear b1
      have c0 : w1.cell? ⟨w.heap.size, 0, none⟩ = some (.int .i64 1) := At.cell hA 0
      have hcv := conv_one (P := Tryd.prog) w1 51 9 5 Tryd.underlying51 Tryd.underlying5 Tryd.underlying9 1 (by omega) 1 (by omega)
      have hA2 := hA.alloc (.cells #[.int .u8 1] 5)
      have d0 : (w1.alloc (.cells #[.int .u8 1] 5)).cell? ⟨w.heap.size, 0, none⟩ = some (.int .i64 1) := At.cell hA2 0
      have d1 : (w1.alloc (.cells #[.int .u8 1] 5)).cell? ⟨w.heap.size, 1, none⟩ = some (.int .i64 n) := At.cell hA2 1
      go_wp2_with fail
      refine (eight_any _ hl _).mono ?_
      rintro e w3 ⟨rfl, b3⟩
      have hb3 := below_in (hb.alloc hb.size _) b3
      generalize bigE 8 (turned n) = ys at *
      go_wp2
      go_ret
      refine ⟨?_, hb3⟩
      rw [hK.out]
      exact congrArg (fun x => Ending.returned (Value.string x)) (ByteArray.mk_append_mk [1] ys)
    · have hK := Lib.hid (keyV_float hk hg)
      have hl := keyI_lt v.num
      have h8 := bigE_len 8 (keyI v.num)
      obtain ⟨k, n, t⟩ := v
      simp only at hk
      subst hk
      show Calls _ _ #[.agg #[.int .i64 2, .int .i64 n, .string ⟨t.toArray⟩]] w _
      clear hv h1 h2
      simp only at hl h8
      go_enter Tryd.func29, Tryd.ntmps29
      go_wp2_with fail
      refine (rgood_any ⟨2, n, t⟩ HV.out _).mono ?_
      rintro e w1 ⟨rfl, b1⟩
      rw [hg]
      obtain ⟨hA, hb⟩ := boxed 2 n t b1
      clear b1
      have c0 : w1.cell? ⟨w.heap.size, 0, none⟩ = some (.int .i64 2) := At.cell hA 0
      have hcv := conv_one (P := Tryd.prog) w1 51 9 5 Tryd.underlying51 Tryd.underlying5 Tryd.underlying9 2 (by omega) 2 (by omega)
      have hA2 := hA.alloc (.cells #[.int .u8 2] 5)
      have d0 : (w1.alloc (.cells #[.int .u8 2] 5)).cell? ⟨w.heap.size, 0, none⟩ = some (.int .i64 2) := At.cell hA2 0
      have d1 : (w1.alloc (.cells #[.int .u8 2] 5)).cell? ⟨w.heap.size, 1, none⟩ = some (.int .i64 n) := At.cell hA2 1
      go_wp2_with (go_at_call 42; refine (refKey_any _ _).mono ?_; rintro e w' ⟨rfl, rfl⟩)
      refine (eight_any _ hl _).mono ?_
      rintro e w3 ⟨rfl, b3⟩
      have hb3 := below_in (hb.alloc hb.size _) b3
      generalize bigE 8 (keyI n) = ys at *
      go_wp2
      go_ret
      refine ⟨?_, hb3⟩
      rw [hK.out]
      exact congrArg (fun x => Ending.returned (Value.string x)) (ByteArray.mk_append_mk [2] ys)
    · have hK := Lib.hid (keyV_text hk hg)
      obtain ⟨k, n, t⟩ := v
      simp only at hk h2
      subst hk
      show Calls _ _ #[.agg #[.int .i64 3, .int .i64 n, .string ⟨t.toArray⟩]] w _
      clear hv h1
      go_enter Tryd.func29, Tryd.ntmps29
      go_wp2_with fail
      refine (rgood_any ⟨3, n, t⟩ HV.out _).mono ?_
      rintro e w1 ⟨rfl, b1⟩
      rw [hg]
      obtain ⟨hA, hb⟩ := boxed 3 n t b1
      clear b1
      have c0 : w1.cell? ⟨w.heap.size, 0, none⟩ = some (.int .i64 3) := At.cell hA 0
      have hcv := conv_one (P := Tryd.prog) w1 51 9 5 Tryd.underlying51 Tryd.underlying5 Tryd.underlying9 3 (by omega) 3 (by omega)
      have hA2 := hA.alloc (.cells #[.int .u8 3] 5)
      have d0 : (w1.alloc (.cells #[.int .u8 3] 5)).cell? ⟨w.heap.size, 0, none⟩ = some (.int .i64 3) := At.cell hA2 0
      have d2 : (w1.alloc (.cells #[.int .u8 3] 5)).cell? ⟨w.heap.size, 2, none⟩ = some (.string ⟨t.toArray⟩) := At.cell hA2 2
      have hb2 : Below w.heap.size w (w1.alloc (.cells #[.int .u8 3] 5)) := hb.alloc hb.size _
      go_wp2_with fail
      go_loop [3, 4] (fun s i => ∃ (j : Nat) (ys : List UInt8), j ≤ t.length ∧ i = .int .i64 j ∧ s = .string ⟨ys.toArray⟩ ∧ ys.length ≤ 1 + 2 * j ∧ Hid (ys = 3 :: esc (t.take j))) (fun _ i => t.length - (intOf i).toNat)
      case atStart => exact ⟨0, [3], by omega, rfl, rfl, by simp, rfl⟩
      case round =>
        obtain ⟨j, ys, hj, rfl, rfl, hyl, hy⟩ := hrel
        by_cases hlt : j < t.length
        · obtain ⟨c, hc⟩ : ∃ c, t.getD j 0 = c := ⟨_, rfl⟩
          have hm1 := mid_one t j hlt
          have ht1 := take_more t j hlt
          rw [hc] at hm1 ht1
          have hex : (ByteArray.mk t.toArray).extract j (j + 1) = ⟨[c].toArray⟩ := by rw [extract_mid, hm1]
          have hix := fun i h w => run_index_list (P := Tryd.prog) 9 t i j c.toNat Tryd.underlying9 h hlt (by rw [hc]) w
          have hE := Lib.hid (esc_snoc (t.take j) c)
          have HT := Lib.hid ht1
          clear hm1 ht1 hc
          by_cases h0 : c.toNat = 0
          · have h0' : ((c.toNat : Int) == 0) = true := by simp; omega
            go_wp2
            refine ⟨⟨j + 1, ys ++ [c] ++ [255], by omega, by go_num, ?_, by simp; omega, ?_⟩, by simp [intOf]; omega⟩
            · exact congrArg Value.string ((congrArg (· ++ ByteArray.mk #[255]) (ByteArray.mk_append_mk ys [c])).trans (ByteArray.mk_append_mk (ys ++ [c]) [255]))
            · have hc0 : c = 0 := UInt8.toNat_inj.1 h0
              show _ = _
              rw [HT.out, hE.out, hy.out, if_pos hc0, hc0]
              simp
          · have h0' : ((c.toNat : Int) == 0) = false := by simp; omega
            go_wp2
            refine ⟨⟨j + 1, ys ++ [c], by omega, by go_num, ?_, by simp; omega, ?_⟩, by simp [intOf]; omega⟩
            · exact congrArg Value.string (ByteArray.mk_append_mk ys [c])
            · have hc0 : ¬ c = 0 := fun e => h0 (by rw [e]; rfl)
              show _ = _
              rw [HT.out, hE.out, hy.out, if_neg hc0]
              simp
        · go_wp2
          go_ret
          refine ⟨?_, hb2⟩
          have hj2 : j = t.length := by omega
          have hy2 : ys = 3 :: esc t := by rw [hy.out, hj2, List.take_of_length_le (Nat.le_refl _)]
          rw [hK.out, ← List.cons_append, ← hy2]
          exact congrArg (fun x => Ending.returned (Value.string x)) (ByteArray.mk_append_mk ys [0, 0])
end Go.Proofs.YtcjbnpeopalbfaaDoor
