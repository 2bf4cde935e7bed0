/- strconv's fmtEFG without an exponent, digits on both sides of the point. -/
import Derived.Test.YtkaeaiagmihmgaaGreatDoorQInfo
import Derived.Test.YtkaeaiagmihmgaaGreatDoorQFmtB
import Derived.Test.YtkaeaiagmihmgaaGreatDoorQFxA
import Derived.Deep.DeepCutAuto
namespace Go.Proofs.YtkaeaiagmihmgaaGreatDoor
open Go.RowKit Go.Sort

set_option maxRecDepth 100000 in
set_option maxHeartbeats 3200000 in
theorem fmtF_mixed (w : World) (g base : Nat) (v : Value) (neg : Bool) (ds : List UInt8) (dp : Int) (hv : Owns w base 5 v []) (hb : base ≤ w.heap.size) (hd : Bytes w g 0 ds) (hg : g < w.heap.size) (hne : v.ownBlock ≠ some g)
    (hn1 : 1 ≤ ds.length) (hn2 : ds.length ≤ 17) (h1 : 0 < dp) (h2 : dp ≤ 6) (h3 : dp < (ds.length : Int)) :
    Calls Tryz.prog 61 #[v, .bool neg, .slice (some ⟨g, 0, none⟩) 32 32, .int .i64 dp, .int .i64 ds.length, .int .i64 ds.length, .int .u8 103, .bool true] w fun e w' =>
      ∃ v', e = .returned v' ∧ Owns w' base 5 v' ((if neg then [45] else []) ++ textF ds dp) ∧ Grew w v w' v' := by
  obtain ⟨nd, hnd⟩ : ∃ nd, ds.length = nd := ⟨_, rfl⟩
  rw [hnd] at hn1 hn2 h3 ⊢
  obtain ⟨p, rfl⟩ : ∃ p : Nat, dp = (p : Int) := ⟨dp.toNat, by omega⟩
  obtain ⟨m, hma, hmb⟩ : ∃ m : Nat, p + m ≤ nd ∧ nd ≤ p + m := ⟨nd - p, by omega, by omega⟩
  obtain ⟨tx, htx⟩ : ∃ tx, (if neg = true then [45] else []) ++ textF ds (p : Int) = tx := ⟨_, rfl⟩
  rw [htx]
  have htx2 : textF ds (p : Int) = ds.take p ++ (46 :: ds.drop p) := by
    unfold textF
    rw [if_pos h1, hnd, if_pos (by omega), show ((p : Int)).toNat - nd = 0 by omega]
    rfl
  rw [htx2] at htx
  have HTX := Lib.hid htx
  clear htx htx2
  have hE1 : ¬ (p : Int) - 1 < -4 := by omega
  have hE2 : ¬ (6 : Int) ≤ (p : Int) - 1 := by omega
  have hp : (p : Int) < (nd : Int) := by omega
  have hm0 : (nd : Int) - (p : Int) = (m : Int) := by omega
  have hm1 : max (m : Int) 0 = (m : Int) := by omega
  have hm2 : min (nd : Int) (p : Int) = (p : Int) := by omega
  have hm3 : max (0 : Int) (-(p : Int)) = 0 := by omega
  have hm4 : min (m : Int) 0 = 0 := by omega
  have hm5 : max (0 : Int) (m : Int) = (m : Int) := by omega
  have hm6 : (0 : Int) < (m : Int) := by omega
  have hp0 : (0 : Int) < (p : Int) := h1
  have hpn : p ≤ 32 := by omega
  go_enter Tryz.func61, Tryz.ntmps61
  go_upto_if 178 with fail
  go_cut [0] (fun v1 w1 => Owns w1 base 5 v1 (if neg then [45] else []) ∧ Grew w v w1 v1)
  case first =>
    cases neg with
    | true =>
      go_wp2_with (at_builtin; refine wpList_append_byte w rfl (.tmp 179) (.tmp 180) 42 5 rfl base Tryz.underlying42 info_u8 v [] 45 45 rfl rfl hv rfl (by simp) hb ?_)
      intro g1 c1 w1 o1 r1
      go_wp2_with fail
      go_meet
      case rel => exact ⟨o1, r1⟩
    | false =>
      go_wp2_with fail
      go_meet
      case rel => exact ⟨hv, Grew.refl _ _⟩
  case rest =>
    obtain ⟨o1, r1⟩ := hcut
    generalize hxs : (if neg = true then [(45 : UInt8)] else []) = xs at o1
    have hxl : xs.length ≤ 1 := by rw [← hxs]; cases neg <;> simp
    have HXS := Lib.hid hxs
    clear hxs
    have b1 : base ≤ wc.heap.size := Nat.le_trans hb r1.grown.size
    go_wp2_with fail
    go_loopw [0, 191] (fun v' i wr => ∃ (k : Nat), i = .int .i64 k ∧ k ≤ p ∧ Owns wr base 5 v' (xs ++ (ds.drop 0).take k) ∧ Grew w v wr v') (fun _ i _ => ((p : Nat) - intOf i).toNat)
    case atStart => exact ⟨0, rfl, by omega, by simpa using o1, r1⟩
    case round =>
      obtain ⟨k, rfl, hk, ok, rk⟩ := hrel
      by_cases hlt : k < p
      · have bk : base ≤ wr.heap.size := Nat.le_trans hb rk.grown.size
        have htk := take_more (ds.drop 0) k (by rw [List.length_drop, hnd]; omega)
        have ck : wr.cell? ⟨g, k, none⟩ = some (.int .u8 (((((ds.drop 0).getD k 0).toNat : Nat)) : Int)) := by have := ((hd.grew hg rk hne).drop 0) k (by rw [List.length_drop, hnd]; omega); rw [Nat.zero_add] at this; exact this
        obtain ⟨d, hdk⟩ : ∃ d, (ds.drop 0).getD k 0 = d := ⟨_, rfl⟩
        rw [hdk] at htk ck
        obtain ⟨ys, hys⟩ : ∃ ys, xs ++ (ds.drop 0).take k = ys := ⟨_, rfl⟩
        have hyl : ys.length ≤ 60 := by rw [← hys, List.length_append, List.length_take]; omega
        rw [hys] at ok
        have hnext : ys ++ [d] = xs ++ (ds.drop 0).take (k + 1) := by rw [htk, ← List.append_assoc, hys]
        have HNX := Lib.hid hnext
        clear htk hdk hys hnext
        skip
        go_wp2_with (at_builtin; refine wpList_append_byte wr rfl (.tmp 195) (.tmp 197) 42 5 rfl base Tryz.underlying42 info_u8 _ ys d _ rfl rfl ok rfl (by omega) bk ?_)
        intro gk kk wk o' r'
        rw [HNX.out] at o'
        have r'' := rk.trans r'
        go_wp2_with fail
        exact ⟨⟨k + 1, rfl, by omega, o', r''⟩, by simp [intOf]; omega⟩
      · obtain rfl : p = k := by omega
        rw [List.drop_zero] at ok
        obtain ⟨zs, hzs⟩ : ∃ zs, xs ++ ds.take p = zs := ⟨_, rfl⟩
        have hzl : zs.length ≤ 20 := by rw [← hzs, List.length_append, List.length_take]; omega
        rw [hzs] at ok
        have HZS := Lib.hid hzs
        clear hzs
        have bk : base ≤ wr.heap.size := Nat.le_trans hb rk.grown.size
        go_wp2_with fail
        refine wp_loop_rounds 1 ?_
        rw [rounds_succ]
        go_wp2_with (at_builtin; refine wpList_append_byte wr rfl (.tmp 214) (.tmp 215) 42 5 rfl base Tryz.underlying42 info_u8 _ zs 46 _ rfl rfl ok rfl (by omega) bk ?_)
        intro g3 k3 w3 o3 r3
        obtain ⟨qs, hqs⟩ : ∃ qs, zs ++ [46] = qs := ⟨_, rfl⟩
        have hql : qs.length ≤ 40 := by rw [← hqs, List.length_append]; simp; omega
        rw [hqs] at o3
        have HQS := Lib.hid hqs
        clear hqs
        have r3' := rk.trans r3
        have b3 : base ≤ w3.heap.size := Nat.le_trans bk r3.grown.size
        clear ok rk r3 bk
        go_wp2_with fail
        refine wp_loop_rounds 1 ?_
        rw [rounds_succ]
        go_wp2_with fail
        go_loopw [0, 247] (fun v' i wr => ∃ (k : Nat), i = .int .i64 k ∧ k ≤ m ∧ Owns wr base 5 v' (qs ++ (ds.drop p).take k) ∧ Grew w v wr v') (fun _ i _ => ((m : Nat) - intOf i).toNat)
        case atStart => exact ⟨0, rfl, by omega, by simpa using o3, r3'⟩
        case round =>
          obtain ⟨k, rfl, hk, ok, rk⟩ := hrel
          by_cases hlt : k < m
          · have bk : base ≤ wr.heap.size := Nat.le_trans hb rk.grown.size
            have htk := take_more (ds.drop p) k (by rw [List.length_drop, hnd]; omega)
            have ck : wr.cell? ⟨g, p + k, none⟩ = some (.int .u8 (((((ds.drop p).getD k 0).toNat : Nat)) : Int)) := by have := ((hd.grew hg rk hne).drop p) k (by rw [List.length_drop, hnd]; omega); rw [Nat.zero_add] at this; exact this
            obtain ⟨d, hdk⟩ : ∃ d, (ds.drop p).getD k 0 = d := ⟨_, rfl⟩
            rw [hdk] at htk ck
            obtain ⟨ys, hys⟩ : ∃ ys, qs ++ (ds.drop p).take k = ys := ⟨_, rfl⟩
            have hyl : ys.length ≤ 60 := by rw [← hys, List.length_append, List.length_take]; omega
            rw [hys] at ok
            have hnext : ys ++ [d] = qs ++ (ds.drop p).take (k + 1) := by rw [htk, ← List.append_assoc, hys]
            have HNX := Lib.hid hnext
            clear htk hdk hys hnext
            skip
            go_wp2_with (at_builtin; refine wpList_append_byte wr rfl (.tmp 250) (.tmp 257) 42 5 rfl base Tryz.underlying42 info_u8 _ ys d _ rfl rfl ok rfl (by omega) bk ?_)
            intro gk kk wk o' r'
            rw [HNX.out] at o'
            have r'' := rk.trans r'
            go_wp2_with fail
            exact ⟨⟨k + 1, rfl, by omega, o', r''⟩, by simp [intOf]; omega⟩
          · obtain rfl : m = k := by omega
            have hall : (ds.drop p).take m = ds.drop p := by rw [List.take_of_length_le (by rw [List.length_drop, hnd]; omega)]
            have hfin : qs ++ ds.drop p = tx := by rw [← HTX.out, HXS.out, ← HQS.out, ← HZS.out]; simp
            rw [hall, hfin] at ok
            go_wp2_with fail
            refine wp_loop_rounds 1 ?_
            rw [rounds_succ]
            go_wp2_with fail
            go_ret
            exact ⟨_, rfl, ok, rk⟩
end Go.Proofs.YtkaeaiagmihmgaaGreatDoor
