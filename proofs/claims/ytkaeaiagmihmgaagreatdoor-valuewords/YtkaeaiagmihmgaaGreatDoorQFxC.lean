/- strconv's fmtEFG with an exponent above 0. -/
import Derived.Test.YtkaeaiagmihmgaaGreatDoorQInfo
import Derived.Test.YtkaeaiagmihmgaaGreatDoorQFmtB
import Derived.Test.YtkaeaiagmihmgaaGreatDoorQFxA
import Derived.Deep.DeepCutAuto
namespace Go.Proofs.YtkaeaiagmihmgaaGreatDoor
open Go.RowKit Go.Sort

set_option maxRecDepth 100000 in
set_option maxHeartbeats 3200000 in
theorem fmtE_high (w : World) (g base : Nat) (v : Value) (neg : Bool) (ds : List UInt8) (dp : Int) (hv : Owns w base 5 v []) (hb : base ≤ w.heap.size) (hd : Bytes w g 0 ds) (hg : g < w.heap.size) (hne : v.ownBlock ≠ some g)
    (hn1 : 1 ≤ ds.length) (hn2 : ds.length ≤ 17) (h1 : -400 ≤ dp) (h2 : dp ≤ 400) (hE : 7 ≤ dp) :
    Calls Tryz.prog 61 #[v, .bool neg, .slice (some ⟨g, 0, none⟩) 32 32, .int .i64 dp, .int .i64 ds.length, .int .i64 ds.length, .int .u8 103, .bool true] w fun e w' =>
      ∃ v', e = .returned v' ∧ Owns w' base 5 v' ((if neg then [45] else []) ++ textE ds dp) ∧ Grew w v w' v' := by
  obtain ⟨nd, hnd⟩ : ∃ nd, ds.length = nd := ⟨_, rfl⟩
  rw [hnd] at hn1 hn2 ⊢
  have hn0 : ((nd : Int) != 0) = true := by simp; omega
  have hn0' : ((nd : Int) == 0) = false := by simp; omega
  have hE1 : ¬ dp - 1 < -4 := by omega
  have hE2 : (6 : Int) ≤ dp - 1 := by omega
  obtain ⟨d0, hd0⟩ : ∃ d0, ds.getD 0 0 = d0 := ⟨_, rfl⟩
  have HD0 := Lib.hid hd0
  obtain ⟨dt, hdt⟩ : ∃ dt, ds.drop 1 = dt := ⟨_, rfl⟩
  have HDT := Lib.hid hdt
  have HT : textE ds dp = (d0 :: (if 1 < nd then 46 :: dt else [])) ++ (101 :: (if dp < 1 then 45 else 43) :: expTail (dp - 1).natAbs) := by unfold textE; rw [hd0, hdt, hnd]
  clear hd0 hdt
  obtain ⟨tx, htx⟩ : ∃ tx, (if neg = true then [45] else []) ++ textE ds dp = tx := ⟨_, rfl⟩
  rw [htx]
  rw [HT] at htx
  have HTX := Lib.hid htx
  clear HT htx
  go_enter Tryz.func61, Tryz.ntmps61
  go_upto_if 78 with fail
  go_cut [0] (fun v1 w1 => Owns w1 base 5 v1 (if neg then [45] else []) ∧ Grew w v w1 v1)
  case first =>
    cases neg with
    | true =>
      go_wp2_with (at_builtin; refine wpList_append_byte w rfl (.tmp 79) (.tmp 80) 42 5 rfl base Tryz.underlying42 info_u8 v [] 45 45 rfl rfl hv rfl (by simp) hb ?_)
      intro g1 c1 w1 o1 r1
      go_wp2_with fail
      go_meet
      case rel => exact ⟨o1, r1⟩
    | false =>
      go_wp2_with fail
      go_meet
      case rel => exact ⟨hv, Grew.refl _ _⟩
  case rest =>
    obtain ⟨o1, r1⟩ := hcut
    generalize hxs : (if neg = true then [(45 : UInt8)] else []) = xs at o1
    have hxl : xs.length ≤ 1 := by rw [← hxs]; cases neg <;> simp
    have HXS := Lib.hid hxs
    clear hxs
    have b1 : base ≤ wc.heap.size := Nat.le_trans hb r1.grown.size
    have c0 : wc.cell? ⟨g, 0, none⟩ = some (.int .u8 ((d0.toNat : Nat) : Int)) := by have := (hd.grew hg r1 hne) 0 (by omega); rw [HD0.out] at this; exact this
    go_wp2_with (at_builtin; refine wpList_append_byte wc rfl (.tmp 87) (.tmp 89) 42 5 rfl base Tryz.underlying42 info_u8 u0 xs d0 _ rfl rfl o1 rfl (by omega) b1 ?_)
    intro g2 k2 w2 o2 r2
    have r2' := r1.trans r2
    have b2 : base ≤ w2.heap.size := Nat.le_trans b1 r2.grown.size
    clear c0 o1 r1 r2 b1
    go_upto_if 92 with fail
    go_cut [0] (fun v3 w3 => Owns w3 base 5 v3 (xs ++ (d0 :: (if 1 < nd then 46 :: dt else []))) ∧ Grew w v w3 v3)
    case first =>
      by_cases hm : 1 < nd
      · have hm' : (0 : Int) < (nd : Int) - 1 := by omega
        go_wp2_with (at_builtin; refine wpList_append_byte w2 rfl (.tmp 93) (.tmp 94) 42 5 rfl base Tryz.underlying42 info_u8 _ (xs ++ [d0]) 46 46 rfl rfl o2 rfl (by simp; omega) b2 ?_)
        intro g3 k3 w3 o3 r3
        have r3' := r2'.trans r3
        have b3 : base ≤ w3.heap.size := Nat.le_trans b2 r3.grown.size
        clear o2 r2' r3 b2
        have hmin : min (nd : Int) ((nd : Int) - 1 + 1) = (nd : Int) := by omega
        have hq3 : Bytes w3 g 1 dt := by have := (hd.grew hg r3' hne).drop 1; rw [HDT.out] at this; exact this
        have hdl : dt.length = nd - 1 := by rw [← HDT.out, List.length_drop, hnd]
        go_wp2_with (at_builtin; refine wpList_append_from w3 rfl (.tmp 103) (.tmp 107) 42 5 rfl base Tryz.underlying42 info_u8 _ (xs ++ [d0, 46]) dt rfl o3 g 1 (nd - 1) 31 rfl hdl ?c1 hq3 ?c2 b3 ?_)
        case c1 => omega
        case c2 => simp; omega
        intro g4 k4 w4 o4 r4
        have r4' := r3'.trans r4
        clear o3 r3' r4 hq3 b3
        go_wp2_with fail
        refine wp_loop_rounds 1 ?_
        rw [rounds_succ]
        go_wp2_with fail
        go_meet
        case rel => exact ⟨by rw [if_pos hm]; simpa using o4, r4'⟩
      · have hm' : ¬ (0 : Int) < (nd : Int) - 1 := by omega
        go_wp2_with fail
        go_meet
        case rel => exact ⟨by rw [if_neg hm]; exact o2, r2'⟩
    case rest =>
      obtain ⟨o5, r5⟩ := hcut
      generalize hys : xs ++ (d0 :: (if 1 < nd then 46 :: dt else [])) = ys at o5
      have hyl : ys.length ≤ 40 := by
        rw [← hys]
        have hdl : dt.length = nd - 1 := by rw [← HDT.out, List.length_drop, hnd]
        split <;> simp <;> omega
      have HYS := Lib.hid hys
      clear hys
      have b5 : base ≤ wc.heap.size := Nat.le_trans hb r5.grown.size
      go_wp2_with (at_builtin; refine wpList_append_byte wc rfl (.tmp 120) (.tmp 122) 42 5 rfl base Tryz.underlying42 info_u8 _ ys 101 _ rfl rfl o5 rfl (by omega) b5 ?_)
      intro g6 k6 w6 o6 r6
      have r6' := r5.trans r6
      have b6 : base ≤ w6.heap.size := Nat.le_trans b5 r6.grown.size
      clear o5 r5 r6 b5
      go_upto_if 129 with fail
      go_cut [19, 22] (fun c x w7 => c = .int .u8 (((if dp < 1 then (45 : UInt8) else 43).toNat : Nat) : Int) ∧ x = .int .i64 (((dp - 1).natAbs : Nat) : Int) ∧ w7 = w6)
      case first =>
        have hs : ¬ dp < 1 := by omega
        have hs' : ¬ dp - 1 < 0 := by omega
        go_wp2_with fail
        go_meet
        case rel => exact ⟨by rw [if_neg (by omega)]; rfl, by congr 1; omega, rfl⟩
      case rest =>
        obtain ⟨rfl, rfl, rfl⟩ := hcut
        generalize hsg : (if dp < 1 then (45 : UInt8) else 43) = sg
        have hxn : (dp - 1).natAbs < 1000 := by omega
        generalize hex : (dp - 1).natAbs = ex at hxn ⊢
        have HSG := Lib.hid hsg
        have HEX := Lib.hid hex
        clear hsg hex
        have o6' : Owns wc base 5 (.slice (some ⟨g6, 0, none⟩) (ys.length + 1) k6) (ys ++ [101]) := o6
        go_wp2_with (at_builtin; refine wpList_append_byte wc rfl (.tmp 132) (.tmp 134) 42 5 rfl base Tryz.underlying42 info_u8 _ (ys ++ [101]) sg _ rfl rfl o6' rfl (by simp; omega) b6 ?_)
        intro g8 k8 w8 o8 r8
        have r8' := r6'.trans r8
        have b8 : base ≤ w8.heap.size := Nat.le_trans b6 r8.grown.size
        clear o6 o6' r6' r8 b6
        obtain ⟨zs, hzs⟩ : ∃ zs, ys ++ [101, sg] = zs := ⟨_, rfl⟩
        have hend : ∀ t, t = expTail ex → zs ++ t = tx := fun t ht => by
          rw [← hzs, ← HTX.out, ht, HSG.out, HEX.out, HXS.out, ← HYS.out]
          simp
        have HEND := Lib.hid hend
        have hzl : zs.length ≤ 60 := by rw [← hzs]; simp; omega
        have o8' : Owns w8 base 5 (.slice (some ⟨g8, 0, none⟩) (ys.length + 1 + 1) k8) zs := by rw [← hzs]; simpa using o8
        clear hend hzs o8
        by_cases x1 : ex < 10
        · obtain ⟨bs, hbs⟩ : ∃ bs, [(48 : Nat).toUInt8, (48 + ex).toUInt8] = bs := ⟨_, rfl⟩
          have hbl : bs.length = 2 := by rw [← hbs]; rfl
          have hfin : zs ++ bs = tx := HEND.out bs (by rw [← hbs]; unfold expTail; rw [if_pos x1]; rfl)
          have HBS := Lib.hid hbs
          have HFIN := Lib.hid hfin
          clear hbs hfin
          go_wp2_with (at_builtin; refine wpList_append_from (w8.alloc _) rfl (.tmp 155) (.tmp 159) 42 5 rfl base Tryz.underlying42 info_u8 _ zs bs rfl (World.ownsRow.alloc o8' _) w8.heap.size 0 2 2 rfl hbl ?c1 ?c3 ?c2 ?c4 ?_)
          case c1 => omega
          case c2 => simp; omega
          case c4 => simp; omega
          case c3 => rw [← HBS.out]; exact Bytes.fresh w8 _ _ _ (byte2 48 (48 + ex) _ _ rfl (by omega) (by omega) (by omega))
          intro g9 k9 w9 o9 r9
          rw [HFIN.out] at o9
          have r9' := (r8'.trans (Grew.alloc _ _ _)).trans r9
          go_wp2_with fail
          go_ret
          refine ⟨_, rfl, ?_, r9'⟩
          exact o9
        · by_cases x2 : ex < 100
          · obtain ⟨bs, hbs⟩ : ∃ bs, [(48 + ex / 10).toUInt8, (48 + ex % 10).toUInt8] = bs := ⟨_, rfl⟩
            have hbl : bs.length = 2 := by rw [← hbs]; rfl
            have hfin : zs ++ bs = tx := HEND.out bs (by rw [← hbs]; unfold expTail; rw [if_neg x1, if_pos x2])
            have HBS := Lib.hid hbs
            have HFIN := Lib.hid hfin
            clear hbs hfin
            go_wp2_with (at_builtin; refine wpList_append_from (w8.alloc _) rfl (.tmp 164) (.tmp 173) 42 5 rfl base Tryz.underlying42 info_u8 _ zs bs rfl (World.ownsRow.alloc o8' _) w8.heap.size 0 2 2 rfl hbl ?c1 ?c3 ?c2 ?c4 ?_)
            case c1 => omega
            case c2 => simp; omega
            case c4 => simp; omega
            case c3 => rw [← HBS.out]; exact Bytes.fresh w8 _ _ _ (byte2 (48 + ex / 10) (48 + ex % 10) _ _ (by omega) (by omega) (by omega) (by omega))
            intro g9 k9 w9 o9 r9
            rw [HFIN.out] at o9
            have r9' := (r8'.trans (Grew.alloc _ _ _)).trans r9
            go_wp2_with fail
            go_ret
            refine ⟨_, rfl, ?_, r9'⟩
            exact o9
          · obtain ⟨bs, hbs⟩ : ∃ bs, [(48 + ex / 100).toUInt8, (48 + ex / 10 % 10).toUInt8, (48 + ex % 10).toUInt8] = bs := ⟨_, rfl⟩
            have hbl : bs.length = 3 := by rw [← hbs]; rfl
            have hfin : zs ++ bs = tx := HEND.out bs (by rw [← hbs]; unfold expTail; rw [if_neg x1, if_neg x2])
            have HBS := Lib.hid hbs
            have HFIN := Lib.hid hfin
            clear hbs hfin
            go_wp2_with (at_builtin; refine wpList_append_from (w8.alloc _) rfl (.tmp 136) (.tmp 150) 42 5 rfl base Tryz.underlying42 info_u8 _ zs bs rfl (World.ownsRow.alloc o8' _) w8.heap.size 0 3 3 rfl hbl ?c1 ?c3 ?c2 ?c4 ?_)
            case c1 => omega
            case c2 => simp; omega
            case c4 => simp; omega
            case c3 => rw [← HBS.out]; exact Bytes.fresh w8 _ _ _ (byte3 (48 + ex / 100) (48 + ex / 10 % 10) (48 + ex % 10) _ _ _ (by omega) (by omega) (by omega) (by omega) (by omega) (by omega))
            intro g9 k9 w9 o9 r9
            rw [HFIN.out] at o9
            have r9' := (r8'.trans (Grew.alloc _ _ _)).trans r9
            go_wp2_with fail
            go_ret
            refine ⟨_, rfl, ?_, r9'⟩
            exact o9
end Go.Proofs.YtkaeaiagmihmgaaGreatDoor
