/- strconv's fmtEFG without an exponent, whole numbers. -/
import Derived.Test.YtkaeaiagmihmgaaGreatDoorQInfo
import Derived.Test.YtkaeaiagmihmgaaGreatDoorQFmtB
import Derived.Test.YtkaeaiagmihmgaaGreatDoorQFxA
import Derived.Deep.DeepCutAuto
namespace Go.Proofs.YtkaeaiagmihmgaaGreatDoor
open Go.RowKit Go.Sort

set_option maxRecDepth 100000 in
set_option maxHeartbeats 3200000 in
theorem fmtF_whole (w : World) (g base : Nat) (v : Value) (neg : Bool) (ds : List UInt8) (dp : Int) (hv : Owns w base 5 v []) (hb : base ≤ w.heap.size) (hd : Bytes w g 0 ds) (hg : g < w.heap.size) (hne : v.ownBlock ≠ some g)
    (hn1 : 1 ≤ ds.length) (hn2 : ds.length ≤ 17) (h1 : 0 < dp) (h2 : dp ≤ 6) (h3 : (ds.length : Int) ≤ dp) :
    Calls Tryz.prog 61 #[v, .bool neg, .slice (some ⟨g, 0, none⟩) 32 32, .int .i64 dp, .int .i64 ds.length, .int .i64 ds.length, .int .u8 103, .bool true] w fun e w' =>
      ∃ v', e = .returned v' ∧ Owns w' base 5 v' ((if neg then [45] else []) ++ textF ds dp) ∧ Grew w v w' v' := by
  obtain ⟨nd, hnd⟩ : ∃ nd, ds.length = nd := ⟨_, rfl⟩
  rw [hnd] at hn1 hn2 h3 ⊢
  obtain ⟨tx, htx⟩ : ∃ tx, (if neg = true then [45] else []) ++ textF ds dp = tx := ⟨_, rfl⟩
  rw [htx]
  have htx2 : textF ds dp = ds ++ List.replicate (dp.toNat - nd) 48 := by
    unfold textF
    rw [if_pos h1, hnd, if_neg (by omega), List.append_nil, List.take_of_length_le (by omega)]
  rw [htx2] at htx
  have HTX := Lib.hid htx
  clear htx htx2
  have hE1 : ¬ dp - 1 < -4 := by omega
  have hE2 : ¬ (6 : Int) ≤ dp - 1 := by omega
  have hp : ¬ dp < (nd : Int) := by omega
  have hm1 : max ((nd : Int) - dp) 0 = 0 := by omega
  have hm2 : min (nd : Int) dp = (nd : Int) := by omega
  go_enter Tryz.func61, Tryz.ntmps61
  go_upto_if 178 with fail
  go_cut [0] (fun v1 w1 => Owns w1 base 5 v1 (if neg then [45] else []) ∧ Grew w v w1 v1)
  case first =>
    cases neg with
    | true =>
      go_wp2_with (at_builtin; refine wpList_append_byte w rfl (.tmp 179) (.tmp 180) 42 5 rfl base Tryz.underlying42 info_u8 v [] 45 45 rfl rfl hv rfl (by simp) hb ?_)
      intro g1 c1 w1 o1 r1
      go_wp2_with fail
      go_meet
      case rel => exact ⟨o1, r1⟩
    | false =>
      go_wp2_with fail
      go_meet
      case rel => exact ⟨hv, Grew.refl _ _⟩
  case rest =>
    obtain ⟨o1, r1⟩ := hcut
    generalize hxs : (if neg = true then [(45 : UInt8)] else []) = xs at o1
    have hxl : xs.length ≤ 1 := by rw [← hxs]; cases neg <;> simp
    have HXS := Lib.hid hxs
    clear hxs
    have b1 : base ≤ wc.heap.size := Nat.le_trans hb r1.grown.size
    go_wp2_with fail
    go_loopw [0, 191] (fun v' i wr => ∃ (k : Nat), i = .int .i64 k ∧ k ≤ nd ∧ Owns wr base 5 v' (xs ++ (ds.drop 0).take k) ∧ Grew w v wr v') (fun _ i _ => ((nd : Nat) - intOf i).toNat)
    case atStart => exact ⟨0, rfl, by omega, by simpa using o1, r1⟩
    case round =>
      obtain ⟨k, rfl, hk, ok, rk⟩ := hrel
      by_cases hlt : k < nd
      · have bk : base ≤ wr.heap.size := Nat.le_trans hb rk.grown.size
        have htk := take_more (ds.drop 0) k (by rw [List.length_drop, hnd]; omega)
        have ck : wr.cell? ⟨g, k, none⟩ = some (.int .u8 (((((ds.drop 0).getD k 0).toNat : Nat)) : Int)) := by have := ((hd.grew hg rk hne).drop 0) k (by rw [List.length_drop, hnd]; omega); rw [Nat.zero_add] at this; exact this
        obtain ⟨d, hdk⟩ : ∃ d, (ds.drop 0).getD k 0 = d := ⟨_, rfl⟩
        rw [hdk] at htk ck
        obtain ⟨ys, hys⟩ : ∃ ys, xs ++ (ds.drop 0).take k = ys := ⟨_, rfl⟩
        have hyl : ys.length ≤ 60 := by rw [← hys, List.length_append, List.length_take]; omega
        rw [hys] at ok
        have hnext : ys ++ [d] = xs ++ (ds.drop 0).take (k + 1) := by rw [htk, ← List.append_assoc, hys]
        have HNX := Lib.hid hnext
        clear htk hdk hys hnext
        skip
        go_wp2_with (at_builtin; refine wpList_append_byte wr rfl (.tmp 195) (.tmp 197) 42 5 rfl base Tryz.underlying42 info_u8 _ ys d _ rfl rfl ok rfl (by omega) bk ?_)
        intro gk kk wk o' r'
        rw [HNX.out] at o'
        have r'' := rk.trans r'
        go_wp2_with fail
        exact ⟨⟨k + 1, rfl, by omega, o', r''⟩, by simp [intOf]; omega⟩
      · obtain rfl : nd = k := by omega
        have hall : (ds.drop 0).take nd = ds := by rw [List.drop_zero, List.take_of_length_le (by omega)]
        rw [hall] at ok
        obtain ⟨zs, hzs⟩ : ∃ zs, xs ++ ds = zs := ⟨_, rfl⟩
        have hzl : zs.length ≤ 20 := by rw [← hzs, List.length_append]; omega
        rw [hzs] at ok
        have HZS := Lib.hid hzs
        clear hall hzs
        obtain ⟨z, hz⟩ : ∃ z : Nat, dp - (nd : Int) = (z : Int) := ⟨(dp - nd).toNat, by omega⟩
        go_wp2_with fail
        go_loopw [0, 203] (fun v' i wr => ∃ (k : Nat), i = .int .i64 k ∧ k ≤ z ∧ Owns wr base 5 v' (zs ++ List.replicate k 48) ∧ Grew w v wr v') (fun _ i _ => ((z : Nat) - intOf i).toNat)
        case atStart => exact ⟨0, rfl, by omega, by simpa using ok, rk⟩
        case round =>
          obtain ⟨k, rfl, hk, ok, rk⟩ := hrel
          by_cases hlt : k < z
          · have bk : base ≤ wr.heap.size := Nat.le_trans hb rk.grown.size
            obtain ⟨ys, hys⟩ : ∃ ys, zs ++ List.replicate k (48 : UInt8) = ys := ⟨_, rfl⟩
            have hyl : ys.length ≤ 60 := by rw [← hys, List.length_append, List.length_replicate]; omega
            rw [hys] at ok
            have hnext : ys ++ [48] = zs ++ List.replicate (k + 1) 48 := by rw [List.replicate_succ', ← List.append_assoc, hys]
            have HNX := Lib.hid hnext
            clear hys hnext
            go_wp2_with (at_builtin; refine wpList_append_byte wr rfl (.tmp 205) (.tmp 206) 42 5 rfl base Tryz.underlying42 info_u8 _ ys 48 _ rfl rfl ok rfl (by omega) bk ?_)
            intro gk kk wk o' r'
            rw [HNX.out] at o'
            have r'' := rk.trans r'
            go_wp2_with fail
            exact ⟨⟨k + 1, rfl, by omega, o', r''⟩, by simp [intOf]; omega⟩
          · obtain rfl : z = k := by omega
            have hfin : zs ++ List.replicate z 48 = tx := by rw [← HTX.out, HXS.out, ← HZS.out, List.append_assoc, show dp.toNat - nd = z by omega]
            rw [hfin] at ok
            go_wp2_with fail
            go_ret
            exact ⟨_, rfl, ok, rk⟩
end Go.Proofs.YtkaeaiagmihmgaaGreatDoor
