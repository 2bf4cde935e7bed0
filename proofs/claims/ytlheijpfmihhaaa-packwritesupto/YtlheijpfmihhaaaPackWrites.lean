/- The walk of the law PackWrites. -/
import Derived.Test.YtlheijpfmihhaaaPackBack
import Derived.Test.YtlheijpfmihhaaaRefA
namespace Go.Proofs.Ytlheijpfmihhaaa
open Go.RowKit

theorem encSs_le : ∀ (ss : List (List UInt8)), ss.flatten.length ≤ 1048576 → (encSs ss).length ≤ 10 * ss.length + ss.flatten.length
  | [], _ => by simp [encSs]
  | s :: r, h => by
    simp only [List.flatten_cons, List.length_append] at h
    have h1 := encSs_le r (by omega)
    have h2 : (enc s.length).length ≤ 10 := enc_len (by unfold I64; omega)
    unfold encSs at h1 ⊢
    simp only [List.map_cons, List.flatten_cons, List.length_append, List.length_cons, encS]
    omega
theorem flat_take_le {α : Type} (f : α → List UInt8) (l : List α) (k : Nat) : ((l.take k).map f).flatten.length ≤ ((l.map f).flatten).length := by
  have := flat_split f l k; omega
theorem le_flat {ss : List (List UInt8)} {x : List UInt8} (h : x ∈ ss) : x.length ≤ ss.flatten.length := by
  obtain ⟨a, b, rfl⟩ := List.append_of_mem h
  simp; omega

set_option maxHeartbeats 1000000 in
theorem packWrites_walk (A0 : Option Addr) (n0 c0 : Nat) (ns : List Int) (A1 : Option Addr) (n1 c1 : Nat) (ss : List (List UInt8)) (A2 : Option Addr) (n2 c2 : Nat) (bs : List Bool) (w : World)
    (hr0 : Nums w A0 n0 ns) (hI : ∀ m ∈ ns, I64 m) (hr1 : Strs w A1 n1 ss) (hr2 : Bools w A2 n2 bs) (hfl : ss.flatten.length ≤ 1048576) (h0 : n0 ≤ 100) (h1 : n1 ≤ 100) (h2 : n2 ≤ 100) :
    Calls Try.prog 3 #[.slice A0 n0 c0, .slice A1 n1 c1, .slice A2 n2 c2] w fun e w' => e = .returned (.bool true) ∧ Below w.heap.size w w' := by
  have g0 : decide ((100 : Int) < n0) = false := by simp; omega
  have g1 : decide ((100 : Int) < n1) = false := by simp; omega
  have g2 : decide ((100 : Int) < n2) = false := by simp; omega
  have hL1 : (encSs ss).length ≤ 2000000 := by have := encSs_le ss hfl; rw [hr1.1] at this; omega
  have hL0 : (encs ns).length ≤ 1000 := by have := encs_len ns hI; rw [hr0.1] at this; omega
  have hL2 : (encBs bs).length ≤ 1000 := by have := flat_len encB 10 bs (fun x _ => encB_len x); rw [hr2.1] at this; unfold encBs; omega
  have HI := Lib.hid hI
  clear hI
  go_enter Try.func3, Try.ntmps3
  go_wp2_with fail
  refine (alive_any _).mono ?_
  rintro e w1 ⟨rfl, hbel⟩
  go_wp2_with fail
  have hbw : w.heap.size ≤ w1.heap.size := hbel.size
  have hbel1 := hbel.alloc hbw (.cells #[.slice none 0 0] 29)
  refine (wint_any w1.heap.size w.heap.size (.slice none 0 0) [] A0 n0 c0 ns _ (At.fresh _ _ _) (Owns.nil _ _ _) hbel1.size (hr0.below hbel1) (hr0.apart hbw (by simp [Value.ownBlock])) HI.out (by simp; omega)).mono ?_
  rintro e w2 ⟨rfl, v2, hb2, ho2, hg2⟩
  have hbel2 : Below w.heap.size w w2 := hbel1.trans (hg2.below hbel1.size hbw (by simp [Value.ownBlock]))
  clear hg2 hbel hbel1
  go_wp2_with fail
  refine (wstr_any w1.heap.size w.heap.size v2 _ A1 n1 c1 ss _ hb2 ho2 hbel2.size (hr1.below hbel2) (hr1.apart hbw (fun g hg => (ho2.lt g hg).1)) (by simp; omega) (by omega)).mono ?_
  rintro e w3 ⟨rfl, v3, hb3, ho3, hg3⟩
  have hbel3 : Below w.heap.size w w3 := hbel2.trans (hg3.below hbel2.size hbw (fun g hg => (ho2.lt g hg).1))
  clear hg3 hb2 ho2 hbel2
  go_wp2_with fail
  refine (wbool_any w1.heap.size w.heap.size v3 _ A2 n2 c2 bs _ hb3 ho3 hbel3.size (hr2.below hbel3) (hr2.apart hbw (fun g hg => (ho3.lt g hg).1)) (by simp; omega)).mono ?_
  rintro e w4 ⟨rfl, v4, hb4, ho4, hg4⟩
  have hbel4 : Below w.heap.size w w4 := hbel3.trans (hg4.below hbel3.size hbw (fun g hg => (ho3.lt g hg).1))
  clear hg4 hb3 ho3 hbel3
  go_wp2_with fail
  generalize w1.heap.size = p0 at *
  go_loopw [8, 43] (fun s i wr => ∃ k : Nat, k ≤ n0 ∧ i = .int .i64 k ∧ s = .string ⟨(encs (ns.take k)).toArray⟩ ∧ Below w4.heap.size w4 wr) (fun _ i _ => n0 - (intOf i).toNat)
  case atStart => exact ⟨0, by omega, rfl, rfl, Below.refl _ _⟩
  case round =>
    obtain ⟨k, hk, rfl, rfl, hblr⟩ := hrel
    have hbl := hbel4.trans (hblr.mono hbel4.size)
    by_cases hlt : k < n0
    · obtain ⟨c, off, rfl, hc, hx⟩ := nums_at hr0 hbl hlt
      have hkl : k < ns.length := by rw [hr0.1]; exact hlt
      have hxI := getD_I64 HI.out hkl
      have hsn : encs (ns.take (k + 1)) = encs (ns.take k) ++ enc (ns.getD k 0) := flat_snoc enc ns 0 k hkl
      have htl : (encs (ns.take k)).length ≤ 1000 := Nat.le_trans (flat_take_le enc ns k) hL0
      obtain ⟨x, hxe⟩ : ∃ x, ns.getD k 0 = x := ⟨_, rfl⟩
      rw [hxe] at hx hxI hsn
      have HS := Lib.hid hsn
      have hxl := enc_len hxI
      clear hsn hxe
      go_wp2_with fail
      refine (refInt_any x hxI _).mono ?_
      rintro e w5 ⟨rfl, hb5⟩
      go_wp2_with fail
      refine ⟨⟨k + 1, by omega, by go_num, ?_, hblr.trans (hb5.mono hblr.size)⟩, by simp [intOf]; omega⟩
      rw [HS.out, mk_append]
    · obtain rfl : k = ns.length := by have := hr0.1; omega
      rw [List.take_of_length_le (Nat.le_refl _)]
      clear hbl
      go_wp2_with fail
      clear hk hlt
      go_loopw [8, 54] (fun s i wr => ∃ k : Nat, k ≤ n1 ∧ i = .int .i64 k ∧ s = .string ⟨(encs ns ++ encSs (ss.take k)).toArray⟩ ∧ Below w4.heap.size w4 wr) (fun _ i _ => n1 - (intOf i).toNat)
      case atStart => exact ⟨0, by omega, rfl, by simp [encSs], hblr⟩
      case round =>
        clear hblr
        obtain ⟨k, hk, rfl, rfl, hblr⟩ := hrel
        have hbl := hbel4.trans (hblr.mono hbel4.size)
        by_cases hlt : k < n1
        · obtain ⟨c, off, rfl, hc, hx⟩ := strs_at hr1 hbl hlt
          have hkl : k < ss.length := by rw [hr1.1]; exact hlt
          have hsn : encSs (ss.take (k + 1)) = encSs (ss.take k) ++ encS (ss.getD k []) := flat_snoc encS ss [] k hkl
          have htl : (encSs (ss.take k)).length ≤ 2000000 := Nat.le_trans (flat_take_le encS ss k) hL1
          have hml : (ss.getD k []).length ≤ 1048576 := Nat.le_trans (le_flat (getD_mem ss [] k hkl)) hfl
          obtain ⟨x, hxe⟩ : ∃ x, ss.getD k [] = x := ⟨_, rfl⟩
          rw [hxe] at hx hsn hml
          have HS := Lib.hid hsn
          clear hsn hxe
          by_cases hx4 : x.length ≤ 4096
          · have hx4' : decide ((4096 : Int) < x.length) = false := by simp; omega
            have hxl := encS_len hx4
            go_wp2_with fail
            refine (refStr_any x (by omega) _).mono ?_
            rintro e w5 ⟨rfl, hb5⟩
            go_wp2_with fail
            refine ⟨⟨k + 1, by omega, by go_num, ?_, hblr.trans (hb5.mono hblr.size)⟩, by simp [intOf]; omega⟩
            rw [HS.out, ← List.append_assoc]; exact congrArg Value.string (mk_append _ _).symm
          · have hx4' : decide ((4096 : Int) < x.length) = true := by simp; omega
            go_wp2_with fail
            go_ret
            exact ⟨rfl, hbl⟩
        · obtain rfl : k = ss.length := by have := hr1.1; omega
          rw [List.take_of_length_le (Nat.le_refl _)]
          clear hbl
          go_wp2_with fail
          clear hk hlt
          go_loopw [8, 68] (fun s i wr => ∃ k : Nat, k ≤ n2 ∧ i = .int .i64 k ∧ s = .string ⟨(encs ns ++ (encSs ss ++ encBs (bs.take k))).toArray⟩ ∧ Below w4.heap.size w4 wr) (fun _ i _ => n2 - (intOf i).toNat)
          case atStart => exact ⟨0, by omega, rfl, by simp [encBs], hblr⟩
          case round =>
            clear hblr
            obtain ⟨k, hk, rfl, rfl, hblr⟩ := hrel
            have hbl := hbel4.trans (hblr.mono hbel4.size)
            by_cases hlt : k < n2
            · obtain ⟨c, off, rfl, hc, hx⟩ := bools_at hr2 hbl hlt
              have hkl : k < bs.length := by rw [hr2.1]; exact hlt
              have hsn : encBs (bs.take (k + 1)) = encBs (bs.take k) ++ encB (bs.getD k false) := flat_snoc encB bs false k hkl
              have htl : (encBs (bs.take k)).length ≤ 1000 := Nat.le_trans (flat_take_le encB bs k) hL2
              obtain ⟨x, hxe⟩ : ∃ x, bs.getD k false = x := ⟨_, rfl⟩
              rw [hxe] at hx hsn
              have HS := Lib.hid hsn
              have hxl := encB_len x
              clear hsn hxe
              go_wp2_with fail
              refine (refBool_any x _).mono ?_
              rintro e w5 ⟨rfl, hb5⟩
              go_wp2_with fail
              refine ⟨⟨k + 1, by omega, by go_num, ?_, hblr.trans (hb5.mono hblr.size)⟩, by simp [intOf]; omega⟩
              have e2 : encs ns ++ (encSs ss ++ encBs (bs.take (k + 1))) = (encs ns ++ (encSs ss ++ encBs (bs.take k))) ++ encB x := by rw [HS.out]; simp only [List.append_assoc]
              rw [e2]
              exact congrArg Value.string (mk_append _ _).symm
            · obtain rfl : k = bs.length := by have := hr2.1; omega
              rw [List.take_of_length_le (Nat.le_refl _)]
              go_wp2_with fail
              refine (wbytes_any p0 w.heap.size v4 _ _ (hb4.below hblr hb4.lt) (ho4.below hblr (fun g hg => (ho4.lt g hg).2))).mono ?_
              rintro e w5 ⟨rfl, rfl⟩
              go_wp2_with fail
              go_ret
              exact ⟨by simp, hbl⟩

set_option maxHeartbeats 400000 in
theorem packWrites_main (A0 : Option Addr) (n0 c0 : Nat) (ns : List Int) (A1 : Option Addr) (n1 c1 : Nat) (ss : List (List UInt8)) (A2 : Option Addr) (n2 c2 : Nat) (bs : List Bool) (w : World)
    (hr0 : Nums w A0 n0 ns) (hI : ∀ m ∈ ns, I64 m) (_ : n0 ≤ maxLen) (hr1 : Strs w A1 n1 ss) (_ : ∀ s ∈ ss, s.length ≤ maxLen) (_ : n1 ≤ maxLen) (hr2 : Bools w A2 n2 bs) (_ : n2 ≤ maxLen) (hfl : ss.flatten.length ≤ 1048576) :
    Calls Try.prog 3 #[.slice A0 n0 c0, .slice A1 n1 c1, .slice A2 n2 c2] w fun e w' => e = .returned (.bool true) ∧ Below w.heap.size w w' := by
  by_cases h0 : n0 ≤ 100
  · by_cases h1 : n1 ≤ 100
    · by_cases h2 : n2 ≤ 100
      · exact packWrites_walk A0 n0 c0 ns A1 n1 c1 ss A2 n2 c2 bs w hr0 hI hr1 hr2 hfl h0 h1 h2
      · have g0 : decide ((100 : Int) < n0) = false := by simp; omega
        have g1 : decide ((100 : Int) < n1) = false := by simp; omega
        have g2 : decide ((100 : Int) < n2) = true := by simp; omega
        clear hI hr0 hr1 hr2
        go_enter Try.func3, Try.ntmps3
        go_wp2_with fail
        refine (alive_any _).mono ?_
        rintro e w1 ⟨rfl, hbel⟩
        go_wp2_with fail
        go_ret
        exact ⟨rfl, hbel⟩
    · have g0 : decide ((100 : Int) < n0) = false := by simp; omega
      have g1 : decide ((100 : Int) < n1) = true := by simp; omega
      clear hI hr0 hr1 hr2
      go_enter Try.func3, Try.ntmps3
      go_wp2_with fail
      refine (alive_any _).mono ?_
      rintro e w1 ⟨rfl, hbel⟩
      go_wp2_with fail
      go_ret
      exact ⟨rfl, hbel⟩
  · have g0 : decide ((100 : Int) < n0) = true := by simp; omega
    clear hI hr0 hr1 hr2
    go_enter Try.func3, Try.ntmps3
    go_wp2_with fail
    refine (alive_any _).mono ?_
    rintro e w1 ⟨rfl, hbel⟩
    go_wp2_with fail
    go_ret
    exact ⟨rfl, hbel⟩
end Go.Proofs.Ytlheijpfmihhaaa
