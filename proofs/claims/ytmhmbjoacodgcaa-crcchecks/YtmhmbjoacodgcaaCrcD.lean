/- The walk of CrcChecks. -/
import Derived.Test.YtmhmbjoacodgcaaCrcC
import Derived.BigQuiet
import Derived.WalkSmall
namespace Go.Proofs.Ytmhmbjoacodgcaa
open Go.RowKit

theorem check_tail (s : List UInt8) : checkOf (s ++ tailOf (crcOf s)) = some s := by
  have h4 : (tailOf (crcOf s)).length = 4 := tails_length 4 _
  unfold checkOf
  have e : (s ++ tailOf (crcOf s)).length - 4 = s.length := by rw [List.length_append, h4]; omega
  rw [e, List.take_left, List.drop_left, if_pos ⟨by rw [List.length_append, h4]; omega, rfl⟩]

theorem checkRes_some (b : List UInt8) : checkRes (some b) = .tuple #[.string ⟨b.toArray⟩, .bool true] := rfl
theorem checkRes_none : checkRes none = .tuple #[.string ⟨#[]⟩, .bool false] := rfl
theorem check_app (s l : List UInt8) (h : (s ++ l).length ≤ maxLen) (w : World) : Calls Try.prog 11 #[.string (⟨s.toArray⟩ ++ ⟨l.toArray⟩)] w fun e w' => e = .returned (checkRes (checkOf (s ++ l))) ∧ Below w.heap.size w w' := by
  have := check_any (s ++ l) h w
  rw [← ByteArray.mk_append_mk] at this
  exact this

theorem run_max_nought {P : Program} {w : World} (ts : Array TypeId) (t : TypeId) (k k' : IntKind) (x : Int) (h : 0 ≤ x) : (Builtin.max_ ts t #[.int k x, .int k' 0]).run P w = .ok (.int k x) w := by
  rw [run_max_int2, if_neg (by omega)]
attribute [local go_sem ↓] run_max_nought

set_option maxRecDepth 100000 in
set_option maxHeartbeats 800000 in
theorem crcChecks_short (s : List UInt8) (w : World) (hs : s.length ≤ maxLen) (h4 : ¬ 4 ≤ s.length) :
    Calls Try.prog 4 #[.string ⟨s.toArray⟩] w fun e w' => e = .returned (.bool true) ∧ Below w.heap.size w w' := by
  have h1 : s.length ≤ 2048 := by omega
  have h1' : ¬ (2048 : Int) < (s.length : Int) := by omega
  have hct := check_tail s
  have htl : (tailOf (crcOf s)).length = 4 := tails_length 4 _
  have hql := crcOf_lt s
  obtain ⟨q, hq⟩ : ∃ q, crcOf s = q := ⟨_, rfl⟩
  rw [hq] at hct htl hql
  have HQ := Lib.hid hq
  clear hq
  obtain ⟨l, hl⟩ : ∃ l, tailOf q = l := ⟨_, rfl⟩
  rw [hl] at hct htl
  have HL := Lib.hid hl
  have HCT := Lib.hid hct
  clear hl hct
  have hsl : (s ++ l).length ≤ maxLen := by rw [List.length_append, htl]; unfold maxLen; omega
  obtain ⟨n, hn⟩ : ∃ n, (s.length : Int) - 4 = n := ⟨_, rfl⟩
  have hn0 : decide (0 ≤ n) = false := by simp; omega
  have hC : checkOf s = none := by unfold checkOf; rw [if_neg (fun h => h4 h.1)]
  have HCC := Lib.hid hC
  clear hC
  go_enter Try.func4, Try.ntmps4
  go_wp2_with fail
  refine (alive_any _).mono ?_
  rintro e w1 ⟨rfl, hb1⟩
  go_wp2_with fail
  refine (of_one' s hs w1 _).mono ?_
  rintro e w2 ⟨rfl, c2⟩
  have b2 := below_in' hb1 c2
  clear c2 hb1
  rw [HQ.out]
  go_wp2_with fail
  refine (tail_any q hql _).mono ?_
  rintro e w3 ⟨rfl, c3⟩
  have b3 := below_in' b2 c3
  clear c3 b2
  rw [HL.out]
  go_wp2_with fail
  refine (check_app s l hsl _).mono ?_
  rintro e w4 ⟨rfl, c4⟩
  have b4 := below_in' b3 c4
  clear c4 b3
  rw [HCT.out, checkRes_some]
  go_wp2_with fail
  go_quiet (fail)
  go_wp2_with fail
  refine (check_any s hs _).mono ?_
  rintro e w7 ⟨rfl, c7⟩
  rw [HCC.out, checkRes_none]
  go_wp2_with fail
  go_ret
  exact ⟨rfl, below_in' (below_drewN b4 nq) c7⟩
end Go.Proofs.Ytmhmbjoacodgcaa
