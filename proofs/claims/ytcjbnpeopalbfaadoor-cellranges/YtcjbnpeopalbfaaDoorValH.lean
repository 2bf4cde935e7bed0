/- The walk of package value's cutText. -/
import Derived.Test.YtcjbnpeopalbfaaDoorValG
import Derived.Test.YtcjbnpeopalbfaaDoorMemByte
namespace Go.Proofs.YtcjbnpeopalbfaaDoor
open Go.RowKit

def strN : Value → Nat
  | .string b => b.size
  | _ => 0
theorem strN_mk (l : List UInt8) : strN (.string ⟨l.toArray⟩) = l.length := by simp [strN, ByteArray.size]

theorem cutV_text (r : List UInt8) : cutV (3 :: r) = match cutT [] r with | some (t, q) => some (⟨3, 0, t⟩, q) | none => none := by
  simp [cutV]
  rfl
theorem cutT_short {q : List UInt8} (h : q.length < 2) (acc : List UInt8) : cutT acc q = none := by
  match q, h with
  | [], _ => rfl
  | [_], _ => rfl

theorem vtext_agg (t : List UInt8) (w : World) :
    Calls Tryd.prog 44 #[.string ⟨t.toArray⟩] w fun e w' => e = .returned (.agg #[.int .i64 3, .int .i64 0, .string ⟨t.toArray⟩]) ∧ Below w.heap.size w w' := vtext_any t w
theorem text_step {w wr w1 : World} {u v : Value} {acc : List UInt8} {cs : Array Value} (hown : Owns wr (w.heap.size + 1) 5 u acc) (hAr : At wr w.heap.size 23 cs) (hbr : Below w.heap.size w wr) (hg : Grew wr u w1 v) :
    At w1 w.heap.size 23 cs ∧ Below w.heap.size w w1 := by
  have hlt := hAr.lt
  refine ⟨hAr.grown hg.grown (fun e => ?_), hbr.trans (hg.below (by omega) (fun g h => ?_))⟩
  · have := (hown.lt _ e.symm).1; omega
  · have := (hown.lt g h).1; omega

set_option maxRecDepth 100000 in
set_option maxHeartbeats 3200000 in
theorem cutText_any (r : List UInt8) (hr : r.length ≤ 1000000) (w : World) :
    Calls Tryd.prog 71 #[.string ⟨r.toArray⟩] w fun e w' => e = .returned (cutRes (cutV (3 :: r))) ∧ Below w.heap.size w w' := by
  have hA := At.fresh w 23 #[.int .i64 0, .int .i64 0, .string ⟨#[]⟩]
  have hb := below_box w (.cells #[.int .i64 0, .int .i64 0, .string ⟨#[]⟩] 23)
  have HV := Lib.hid (cutV_text r)
  go_enter Tryd.func71, Tryd.ntmps71
  go_wp2_with fail
  go_loopw [0, 5] (fun s tx wr => ∃ q acc : List UInt8, s = .string ⟨q.toArray⟩ ∧ Owns wr (w.heap.size + 1) 5 tx acc ∧ acc.length + q.length ≤ r.length ∧ Hid (cutT [] r = cutT acc q) ∧ At wr w.heap.size 23 #[.int .i64 0, .int .i64 0, .string ⟨#[]⟩] ∧ Below w.heap.size w wr) (fun s _ _ => strN s)
  case atStart => exact ⟨r, [], rfl, Owns.nil _ _ _, by simp, rfl, hA, hb⟩
  case round =>
    obtain ⟨q, acc, rfl, hown, hlen, HT, hAr, hbr⟩ := hrel
    obtain ⟨A5, c5, rfl⟩ := hown.len
    have hsz : w.heap.size + 1 ≤ wr.heap.size := hAr.lt
    have c0 : wr.cell? ⟨w.heap.size, 0, none⟩ = some (.int .i64 0) := At.cell hAr 0
    have c1 : wr.cell? ⟨w.heap.size, 1, none⟩ = some (.int .i64 0) := At.cell hAr 1
    have c2 : wr.cell? ⟨w.heap.size, 2, none⟩ = some (.string ⟨#[]⟩) := At.cell hAr 2
    match q with
    | [] =>
      have HN := Lib.hid (cutT_short (q := []) (by simp) acc)
      go_wp2_with fail
      refine (noKey_any _).mono ?_
      rintro e w1 ⟨rfl, b1⟩
      rw [cutRes_none]
      have hA1 := hAr.below b1 hAr.lt
      have hb1 := below_in hbr b1
      have d0 : w1.cell? ⟨w.heap.size, 0, none⟩ = some (.int .i64 0) := At.cell hA1 0
      have d1 : w1.cell? ⟨w.heap.size, 1, none⟩ = some (.int .i64 0) := At.cell hA1 1
      have d2 : w1.cell? ⟨w.heap.size, 2, none⟩ = some (.string ⟨#[]⟩) := At.cell hA1 2
      have f0 := At.unfrozen hA1 0
      have f1 := At.unfrozen hA1 1
      have f2 := At.unfrozen hA1 2
      go_wp2_with fail
      refine bodyPost_ret (v := cutRes (cutV (3 :: r))) (by rw [HV.out, HT.out, HN.out]; simp [results, Tryd.results71, go_sem, cutRes, Vl.val, d0, d1, d2]) rfl ⟨rfl, below_put3 hb1 _ _ _⟩
    | [x] =>
      have HN := Lib.hid (cutT_short (q := [x]) (by simp) acc)
      go_wp2_with fail
      refine (noKey_any _).mono ?_
      rintro e w1 ⟨rfl, b1⟩
      rw [cutRes_none]
      have hA1 := hAr.below b1 hAr.lt
      have hb1 := below_in hbr b1
      have d0 : w1.cell? ⟨w.heap.size, 0, none⟩ = some (.int .i64 0) := At.cell hA1 0
      have d1 : w1.cell? ⟨w.heap.size, 1, none⟩ = some (.int .i64 0) := At.cell hA1 1
      have d2 : w1.cell? ⟨w.heap.size, 2, none⟩ = some (.string ⟨#[]⟩) := At.cell hA1 2
      have f0 := At.unfrozen hA1 0
      have f1 := At.unfrozen hA1 1
      have f2 := At.unfrozen hA1 2
      go_wp2_with fail
      refine bodyPost_ret (v := cutRes (cutV (3 :: r))) (by rw [HV.out, HT.out, HN.out]; simp [results, Tryd.results71, go_sem, cutRes, Vl.val, d0, d1, d2]) rfl ⟨rfl, below_put3 hb1 _ _ _⟩
    | a :: b :: q =>
      obtain ⟨z, hz⟩ : ∃ z, a :: b :: q = z := ⟨_, rfl⟩
      have hzl : z.length = q.length + 2 := by rw [← hz]; rfl
      have hql : acc.length + (q.length + 2) ≤ r.length := by rw [hz, hzl] at hlen; exact hlen
      have hx1 : (ByteArray.mk z.toArray).extract 1 (q.length + 2) = ⟨(b :: q).toArray⟩ := by rw [← hzl, extract_drop, ← hz]; rfl
      have hx2 : (ByteArray.mk z.toArray).extract 2 (q.length + 2) = ⟨q.toArray⟩ := by rw [← hzl, extract_drop, ← hz]; rfl
      have hix := fun i h w => run_index_list (P := Tryd.prog) 9 z i 0 a.toNat Tryd.underlying9 h (by omega) (by rw [← hz]; rfl) w
      have hp1 : Lib.hasPrefix (ByteArray.mk z.toArray).data.toList (ByteArray.mk #[0, 255]).data.toList = ((0 : UInt8) == a && (255 : UInt8) == b) := by
        show Lib.hasPrefix z [0, 255] = _
        rw [← hz]; simp [Lib.hasPrefix, List.isPrefixOf]
      have hp2 : Lib.hasPrefix (ByteArray.mk z.toArray).data.toList (ByteArray.mk #[0, 0]).data.toList = ((0 : UInt8) == a && (0 : UInt8) == b) := by
        show Lib.hasPrefix z [0, 0] = _
        rw [← hz]; simp [Lib.hasPrefix, List.isPrefixOf]
      have hz2 : (2 : Int) ≤ z.length := by omega
      have HZ := Lib.hid hz
      rw [hz] at HT ⊢
      clear hlen hz
      by_cases h0 : a.toNat = 0
      · have ha : a = 0 := UInt8.toNat_inj.1 h0
        have h0' : ((a.toNat : Int) != 0) = false := by simp; omega
        by_cases hb5 : b = 255
        · have HN : Hid (cutT acc z = cutT (acc ++ [0]) q) := by show _ = _; rw [← HZ.out, cutT, if_pos ha, if_pos hb5]
          have hq1 : ((0 : UInt8) == a && (255 : UInt8) == b) = true := by rw [ha, hb5]; rfl
          rw [hq1] at hp1
          clear hix
          have hix := fun i h w => run_index_list (P := Tryd.prog) 9 z i 0 a.toNat Tryd.underlying9 h (by omega) (by rw [← HZ.out]; rfl) w
          go_wp2_with fail
          refine (Tryd.strings_HasPrefix ⟨z.toArray⟩ ⟨#[0, 255]⟩ _).mono ?_
          rintro e w' ⟨rfl, rfl⟩
          rw [hp1]
          go_wp2_with (at_builtin; refine wpList_append_byte _ rfl (.tmp 27) (.tmp 28) 51 5 rfl (w.heap.size + 1) Tryd.underlying51 info_u8 _ acc 0 0 rfl rfl hown rfl ?c1 hsz ?_)
          case c1 => omega
          intro g cap w1 ho1 hg1
          go_wp2_with fail
          obtain ⟨hA1, hb1⟩ := text_step hown hAr hbr hg1
          refine ⟨⟨q, acc ++ [0], rfl, ho1, by simp; omega, HT.out.trans HN.out, hA1, hb1⟩, by rw [strN_mk, strN_mk]; omega⟩
        · have hq1 : ((0 : UInt8) == a && (255 : UInt8) == b) = false := by rw [ha]; simp; exact fun e => hb5 e.symm
          rw [hq1] at hp1
          by_cases hb0 : b = 0
          · have hq2 : ((0 : UInt8) == a && (0 : UInt8) == b) = true := by rw [ha, hb0]; rfl
            rw [hq2] at hp2
            by_cases h24 : acc.length ≤ 24
            · have HN : Hid (cutT acc z = some (acc, q)) := by show _ = _; rw [← HZ.out, cutT, if_pos ha, if_neg hb5, if_pos ⟨hb0, h24⟩]
              go_wp2_with fail
              refine (Tryd.strings_HasPrefix ⟨z.toArray⟩ ⟨#[0, 255]⟩ _).mono ?_
              rintro e w' ⟨rfl, rfl⟩
              rw [hp1]
              go_wp2_with fail
              refine (Tryd.strings_HasPrefix ⟨z.toArray⟩ ⟨#[0, 0]⟩ _).mono ?_
              rintro e w' ⟨rfl, rfl⟩
              rw [hp2]
              go_wp2_with fail
              have hD : Below w'.heap.size w' w'.drew := (Below.refl _ _).drew
              have hoD := hown.below hD (fun g h => (hown.lt g h).2)
              have hAD := hAr.below hD hAr.lt
              have hbD := below_in hbr hD
              have hcv := run_bytes_owned (P := Tryd.prog) 51 9 5 Tryd.underlying51 Tryd.underlying5 Tryd.underlying9 hoD
              go_region_with (first | (go_at_call 44; refine (vtext_agg acc w'.drew).mono ?_; rintro e w1 ⟨rfl, b1⟩; have hA1 := hAD.below b1 hAD.lt; have hb1 := below_in hbD b1; have d0 : w1.cell? ⟨w.heap.size, 0, none⟩ = some (.int .i64 0) := At.cell hA1 0; have d1 : w1.cell? ⟨w.heap.size, 1, none⟩ = some (.int .i64 0) := At.cell hA1 1; have d2 : w1.cell? ⟨w.heap.size, 2, none⟩ = some (.string ⟨#[]⟩) := At.cell hA1 2; have f0 := At.unfrozen hA1 0; have f1 := At.unfrozen hA1 1; have f2 := At.unfrozen hA1 2))
              all_goals
                go_wp2_with fail
                refine bodyPost_ret (v := cutRes (cutV (3 :: r))) (by rw [HV.out, HT.out, HN.out]; simp [results, Tryd.results71, go_sem, cutRes, Vl.val, d0, d1, d2]) rfl ⟨rfl, below_put3 hb1 _ _ _⟩
            · have HN : Hid (cutT acc z = none) := by show _ = _; rw [← HZ.out, cutT, if_pos ha, if_neg hb5, if_neg (fun h => h24 h.2)]
              go_wp2_with fail
              refine (Tryd.strings_HasPrefix ⟨z.toArray⟩ ⟨#[0, 255]⟩ _).mono ?_
              rintro e w' ⟨rfl, rfl⟩
              rw [hp1]
              go_wp2_with fail
              refine (Tryd.strings_HasPrefix ⟨z.toArray⟩ ⟨#[0, 0]⟩ _).mono ?_
              rintro e w' ⟨rfl, rfl⟩
              rw [hp2]
              go_wp2_with fail
              refine (noKey_any _).mono ?_
              rintro e w1 ⟨rfl, b1⟩
              rw [cutRes_none]
              have hA1 := hAr.below b1 hAr.lt
              have hb1 := below_in hbr b1
              have d0 : w1.cell? ⟨w.heap.size, 0, none⟩ = some (.int .i64 0) := At.cell hA1 0
              have d1 : w1.cell? ⟨w.heap.size, 1, none⟩ = some (.int .i64 0) := At.cell hA1 1
              have d2 : w1.cell? ⟨w.heap.size, 2, none⟩ = some (.string ⟨#[]⟩) := At.cell hA1 2
              have f0 := At.unfrozen hA1 0
              have f1 := At.unfrozen hA1 1
              have f2 := At.unfrozen hA1 2
              go_wp2_with fail
              refine bodyPost_ret (v := cutRes (cutV (3 :: r))) (by rw [HV.out, HT.out, HN.out]; simp [results, Tryd.results71, go_sem, cutRes, Vl.val, d0, d1, d2]) rfl ⟨rfl, below_put3 hb1 _ _ _⟩
          · have hq2 : ((0 : UInt8) == a && (0 : UInt8) == b) = false := by rw [ha]; simp; exact fun e => hb0 e.symm
            rw [hq2] at hp2
            have HN : Hid (cutT acc z = none) := by show _ = _; rw [← HZ.out, cutT, if_pos ha, if_neg hb5, if_neg (fun h => hb0 h.1)]
            go_wp2_with fail
            refine (Tryd.strings_HasPrefix ⟨z.toArray⟩ ⟨#[0, 255]⟩ _).mono ?_
            rintro e w' ⟨rfl, rfl⟩
            rw [hp1]
            go_wp2_with fail
            refine (Tryd.strings_HasPrefix ⟨z.toArray⟩ ⟨#[0, 0]⟩ _).mono ?_
            rintro e w' ⟨rfl, rfl⟩
            rw [hp2]
            go_wp2_with fail
            refine (noKey_any _).mono ?_
            rintro e w1 ⟨rfl, b1⟩
            rw [cutRes_none]
            have hA1 := hAr.below b1 hAr.lt
            have hb1 := below_in hbr b1
            have d0 : w1.cell? ⟨w.heap.size, 0, none⟩ = some (.int .i64 0) := At.cell hA1 0
            have d1 : w1.cell? ⟨w.heap.size, 1, none⟩ = some (.int .i64 0) := At.cell hA1 1
            have d2 : w1.cell? ⟨w.heap.size, 2, none⟩ = some (.string ⟨#[]⟩) := At.cell hA1 2
            have f0 := At.unfrozen hA1 0
            have f1 := At.unfrozen hA1 1
            have f2 := At.unfrozen hA1 2
            go_wp2_with fail
            refine bodyPost_ret (v := cutRes (cutV (3 :: r))) (by rw [HV.out, HT.out, HN.out]; simp [results, Tryd.results71, go_sem, cutRes, Vl.val, d0, d1, d2]) rfl ⟨rfl, below_put3 hb1 _ _ _⟩
      · have ha : ¬ a = 0 := fun e => h0 (by rw [e]; rfl)
        have HN : Hid (cutT acc z = cutT (acc ++ [a]) (b :: q)) := by show _ = _; rw [← HZ.out, cutT, if_neg ha]
        have h0' : ((a.toNat : Int) != 0) = true := by simp; omega
        go_wp2_with (at_builtin; refine wpList_append_byte wr rfl (.tmp 17) (.tmp 20) 51 5 rfl (w.heap.size + 1) Tryd.underlying51 info_u8 _ acc a a.toNat rfl rfl hown rfl ?c1 hsz ?_)
        case c1 => omega
        intro g cap w1 ho1 hg1
        go_wp2_with fail
        obtain ⟨hA1, hb1⟩ := text_step hown hAr hbr hg1
        refine ⟨⟨b :: q, acc ++ [a], rfl, ho1, by simp; omega, HT.out.trans HN.out, hA1, hb1⟩, by rw [strN_mk, strN_mk]; simp; omega⟩
end Go.Proofs.YtcjbnpeopalbfaaDoor
