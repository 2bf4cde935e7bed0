/- The walk of the law PackBack. -/
import Derived.Test.YtlheijpfmihhaaaPackCuts
import Derived.Test.YtlheijpfmihhaaaPackG
import Derived.Test.YtlheijpfmihhaaaPackH
namespace Go.Proofs.Ytlheijpfmihhaaa
open Go.RowKit

theorem strs_at {w wr : World} {A : Option Addr} {n k : Nat} {ss : List (List UInt8)} (hr : Strs w A n ss) (hb : Below w.heap.size w wr) (hk : k < n) :
    ∃ b off, A = some ⟨b, off, none⟩ ∧ b < w.heap.size ∧ wr.cell? ⟨b, off + k, none⟩ = some (.string ⟨(ss.getD k []).toArray⟩) := by
  obtain ⟨b, off, rfl, h1, h2⟩ := hr.2 (by omega)
  exact ⟨b, off, rfl, h1, (hb.cell (p := ⟨b, off + k, none⟩) h1).trans (h2 k hk)⟩
theorem bools_at {w wr : World} {A : Option Addr} {n k : Nat} {bs : List Bool} (hr : Bools w A n bs) (hb : Below w.heap.size w wr) (hk : k < n) :
    ∃ b off, A = some ⟨b, off, none⟩ ∧ b < w.heap.size ∧ wr.cell? ⟨b, off + k, none⟩ = some (.bool (bs.getD k false)) := by
  obtain ⟨b, off, rfl, h1, h2⟩ := hr.2 (by omega)
  exact ⟨b, off, rfl, h1, (hb.cell (p := ⟨b, off + k, none⟩) h1).trans (h2 k hk)⟩
theorem Strs.below {w wr : World} {A : Option Addr} {n : Nat} {ss : List (List UInt8)} (hr : Strs w A n ss) (hb : Below w.heap.size w wr) : Strs wr A n ss :=
  ⟨hr.1, fun hn => by obtain ⟨b, off, rfl, h1, h2⟩ := hr.2 hn; exact ⟨b, off, rfl, Nat.lt_of_lt_of_le h1 hb.size, fun j hj => (hb.cell (p := ⟨b, off + j, none⟩) h1).trans (h2 j hj)⟩⟩
theorem Nums.below {w wr : World} {A : Option Addr} {n : Nat} {ns : List Int} (hr : Nums w A n ns) (hb : Below w.heap.size w wr) : Nums wr A n ns :=
  ⟨hr.1, fun hn => by obtain ⟨b, off, rfl, h1, h2⟩ := hr.2 hn; exact ⟨b, off, rfl, Nat.lt_of_lt_of_le h1 hb.size, fun j hj => (hb.cell (p := ⟨b, off + j, none⟩) h1).trans (h2 j hj)⟩⟩
theorem Bools.below {w wr : World} {A : Option Addr} {n : Nat} {bs : List Bool} (hr : Bools w A n bs) (hb : Below w.heap.size w wr) : Bools wr A n bs :=
  ⟨hr.1, fun hn => by obtain ⟨b, off, rfl, h1, h2⟩ := hr.2 hn; exact ⟨b, off, rfl, Nat.lt_of_lt_of_le h1 hb.size, fun j hj => (hb.cell (p := ⟨b, off + j, none⟩) h1).trans (h2 j hj)⟩⟩
/-- An argument's row lies below what the call makes. -/
theorem Nums.apart {w : World} {A : Option Addr} {n : Nat} {ns : List Int} (hr : Nums w A n ns) {b : Nat} {v : Value} (hb : w.heap.size ≤ b) (hv : ∀ g, v.ownBlock = some g → w.heap.size ≤ g) :
    0 < n → ∀ c o, A = some ⟨c, o, none⟩ → c ≠ b ∧ v.ownBlock ≠ some c := by
  intro hn c o h
  obtain ⟨b', off, h0, h1, _⟩ := hr.2 hn
  rw [h0] at h; injection h with h; injection h with h
  exact ⟨by omega, fun e => by have := hv c e; omega⟩
theorem Strs.apart {w : World} {A : Option Addr} {n : Nat} {ns : List (List UInt8)} (hr : Strs w A n ns) {b : Nat} {v : Value} (hb : w.heap.size ≤ b) (hv : ∀ g, v.ownBlock = some g → w.heap.size ≤ g) :
    0 < n → ∀ c o, A = some ⟨c, o, none⟩ → c ≠ b ∧ v.ownBlock ≠ some c := by
  intro hn c o h
  obtain ⟨b', off, h0, h1, _⟩ := hr.2 hn
  rw [h0] at h; injection h with h; injection h with h
  exact ⟨by omega, fun e => by have := hv c e; omega⟩
theorem Bools.apart {w : World} {A : Option Addr} {n : Nat} {ns : List Bool} (hr : Bools w A n ns) {b : Nat} {v : Value} (hb : w.heap.size ≤ b) (hv : ∀ g, v.ownBlock = some g → w.heap.size ≤ g) :
    0 < n → ∀ c o, A = some ⟨c, o, none⟩ → c ≠ b ∧ v.ownBlock ≠ some c := by
  intro hn c o h
  obtain ⟨b', off, h0, h1, _⟩ := hr.2 hn
  rw [h0] at h; injection h with h; injection h with h
  exact ⟨by omega, fun e => by have := hv c e; omega⟩
theorem flat_drop {α : Type} (f : α → List UInt8) (l : List α) (d : α) (k : Nat) (h : k < l.length) : ((l.drop k).map f).flatten = f (l.getD k d) ++ ((l.drop (k + 1)).map f).flatten := by
  rw [List.drop_eq_getElem_cons h, List.map_cons, List.flatten_cons]
  simp [List.getElem?_eq_getElem h]

theorem encS_len {s : List UInt8} (h : s.length ≤ 4096) : (encS s).length ≤ 4106 := by
  have : (enc s.length).length ≤ 10 := enc_len (by unfold I64; omega)
  simp only [encS, List.length_append]; omega
theorem flat_len {α : Type} (f : α → List UInt8) (m : Nat) : ∀ (l : List α), (∀ x ∈ l, (f x).length ≤ m) → ((l.map f).flatten).length ≤ m * l.length
  | [], _ => by simp
  | x :: r, h => by
    have h1 := flat_len f m r (fun y hy => h y (by simp [hy]))
    have h2 := h x (by simp)
    simp only [List.map_cons, List.flatten_cons, List.length_append, List.length_cons, Nat.mul_add]
    omega
theorem encB_len (b : Bool) : (encB b).length ≤ 10 := enc_len (by unfold I64; split <;> omega)
theorem getD_mem {α : Type} (l : List α) (d : α) (k : Nat) (h : k < l.length) : l.getD k d ∈ l := by simp [List.getElem?_eq_getElem h]

set_option maxHeartbeats 1000000 in
theorem packBack_walk (A0 : Option Addr) (n0 c0 : Nat) (ns : List Int) (A1 : Option Addr) (n1 c1 : Nat) (ss : List (List UInt8)) (A2 : Option Addr) (n2 c2 : Nat) (bs : List Bool) (w : World)
    (hr0 : Nums w A0 n0 ns) (hI : ∀ m ∈ ns, I64 m) (hr1 : Strs w A1 n1 ss) (hs1 : ∀ s ∈ ss, s.length ≤ maxLen) (hr2 : Bools w A2 n2 bs) (h0 : n0 ≤ 60) (h1 : n1 ≤ 60) (h2 : n2 ≤ 60) :
    Calls Try.prog 5 #[.slice A0 n0 c0, .slice A1 n1 c1, .slice A2 n2 c2] w fun e w' => e = .returned (.bool true) ∧ Below w.heap.size w w' := by
  have g0 : decide ((60 : Int) < n0) = false := by simp; omega
  have g1 : decide ((60 : Int) < n1) = false := by simp; omega
  have g2 : decide ((60 : Int) < n2) = false := by simp; omega
  have HI := Lib.hid hI
  have HS := Lib.hid hs1
  clear hI hs1
  go_enter Try.func5, Try.ntmps5
  go_wp2_with fail
  refine (alive_any _).mono ?_
  rintro e w1 ⟨rfl, hbel⟩
  go_wp2_with fail
  have hbw : w.heap.size ≤ w1.heap.size := hbel.size
  have hbel1 := hbel.alloc hbw (.cells #[.slice none 0 0] 29)
  go_loop [36] (fun i => ∃ k : Nat, k ≤ n1 ∧ i = .int .i64 k ∧ Hid (∀ j, j < k → (ss.getD j []).length ≤ 4096)) (fun i => n1 - (intOf i).toNat)
  case atStart => exact ⟨0, by omega, rfl, fun j hj => absurd hj (by omega)⟩
  case round =>
    obtain ⟨k, hk, rfl, hall⟩ := hrel
    by_cases hlt : k < n1
    · obtain ⟨c, off, rfl, hc, hx⟩ := strs_at hr1 hbel1 hlt
      have hkl : k < ss.length := by rw [hr1.1]; exact hlt
      have hml := HS.out _ (getD_mem ss [] k hkl)
      obtain ⟨x, hxe⟩ : ∃ x, ss.getD k [] = x := ⟨_, rfl⟩
      rw [hxe] at hx hml
      have HX := Lib.hid hxe
      clear hxe
      unfold maxLen at hml
      by_cases hx4 : x.length ≤ 4096
      · have hx4' : decide ((4096 : Int) < x.length) = false := by simp; omega
        go_wp2_with fail
        refine ⟨⟨k + 1, by omega, by go_num, fun j hj => ?_⟩, by simp [intOf]; omega⟩
        by_cases hjk : j = k
        · subst hjk; rw [HX.out]; exact hx4
        · exact hall.out j (by omega)
      · have hx4' : decide ((4096 : Int) < x.length) = true := by simp; omega
        go_wp2_with fail
        go_ret
        exact ⟨rfl, hbel1⟩
    · have hall4 : ∀ s ∈ ss, s.length ≤ 4096 := by
        intro s hs
        obtain ⟨j, hj, rfl⟩ := List.getElem_of_mem hs
        have := hall.out j (by have := hr1.1; omega)
        simpa [List.getElem?_eq_getElem hj] using this
      have hL1 : (encSs ss).length ≤ 4106 * n1 := by have := flat_len encS 4106 ss (fun x hx => encS_len (hall4 x hx)); rw [hr1.1] at this; exact this
      have hL0 : (encs ns).length ≤ 10 * n0 := by have := encs_len ns HI.out; rw [hr0.1] at this; exact this
      have hL2 : (encBs bs).length ≤ 10 * n2 := by have := flat_len encB 10 bs (fun x _ => encB_len x); rw [hr2.1] at this; exact this
      clear hall4 hall
      go_wp2_with fail
      refine (wstr_any w1.heap.size w.heap.size (.slice none 0 0) [] A1 n1 c1 ss _ (At.fresh _ _ _) (Owns.nil _ _ _) hbel1.size (hr1.below hbel1) (hr1.apart hbw (by simp [Value.ownBlock])) (by simp; omega) (by omega)).mono ?_
      rintro e w2 ⟨rfl, v2, hb2, ho2, hg2⟩
      have hbel2 : Below w.heap.size w w2 := hbel1.trans (hg2.below hbel1.size hbw (by simp [Value.ownBlock]))
      clear hg2
      go_wp2_with fail
      refine (wint_any w1.heap.size w.heap.size v2 _ A0 n0 c0 ns _ hb2 ho2 hbel2.size (hr0.below hbel2) (hr0.apart hbw (fun g hg => (ho2.lt g hg).1)) HI.out (by simp; omega)).mono ?_
      rintro e w3 ⟨rfl, v3, hb3, ho3, hg3⟩
      have hbel3 : Below w.heap.size w w3 := hbel2.trans (hg3.below hbel2.size hbw (fun g hg => (ho2.lt g hg).1))
      clear hg3 hb2 ho2
      go_wp2_with fail
      refine (wbool_any w1.heap.size w.heap.size v3 _ A2 n2 c2 bs _ hb3 ho3 hbel3.size (hr2.below hbel3) (hr2.apart hbw (fun g hg => (ho3.lt g hg).1)) (by simp; omega)).mono ?_
      rintro e w4 ⟨rfl, v4, hb4, ho4, hg4⟩
      have hbel4 : Below w.heap.size w w4 := hbel3.trans (hg4.below hbel3.size hbw (fun g hg => (ho3.lt g hg).1))
      clear hg4 hb3 ho3
      go_wp2_with fail
      refine (wbytes_any w1.heap.size w.heap.size v4 _ _ hb4 ho4).mono ?_
      rintro e w5 ⟨rfl, rfl⟩
      clear hb4 ho4
      go_wp2_with fail
      refine (open_any _ _).mono ?_
      rintro e w5 ⟨rfl, hr5, hg5⟩
      have hbel5 : Below w.heap.size w w5 := hbel4.grown hg5 hbel4.size (by simp)
      have hbr : w.heap.size ≤ w4.heap.size := hbel4.size
      clear hg5 hbel2 hbel3 hbel4
      generalize w4.heap.size = br at *
      have hTL : (encSs ss ++ (encs ns ++ encBs bs)).length ≤ 1000000 := by simp; omega
      have hT2 : (encs ns ++ encBs bs).length ≤ 1000000 := by simp; omega
      have hT3 : (encBs bs).length ≤ 1000000 := by omega
      clear hL0 hL1 hL2 hk hlt
      go_wp2_with fail
      go_loopw [58] (fun i wq => ∃ (k : Nat) (l : List UInt8), k ≤ n1 ∧ i = .int .i64 k ∧ Rd wq br l false ∧ l.length ≤ 1000000 ∧ Hid (l = encSs (ss.drop k) ++ (encs ns ++ encBs bs)) ∧ Below w.heap.size w wq) (fun i _ => n1 - (intOf i).toNat)
      case atStart => exact ⟨0, _, by omega, rfl, hr5, hTL, rfl, hbel5⟩
      case round =>
        clear hr5 hbel5 hbel1 hTL
        obtain ⟨k, l, hk, rfl, hrd, hll, HL, hblq⟩ := hrel
        have hll' : l.length ≤ maxLen := by unfold maxLen; omega
        by_cases hlt : k < n1
        · obtain ⟨c, off, rfl, hc, hx⟩ := strs_at hr1 hblq hlt
          have hkl : k < ss.length := by rw [hr1.1]; exact hlt
          have hfd : encSs (ss.drop k) = encS (ss.getD k []) ++ encSs (ss.drop (k + 1)) := flat_drop encS ss [] k hkl
          obtain ⟨x, hxe⟩ : ∃ x, ss.getD k [] = x := ⟨_, rfl⟩
          rw [hxe] at hx hfd
          have hl2 : l = enc x.length ++ (x ++ (encSs (ss.drop (k + 1)) ++ (encs ns ++ encBs bs))) := by
            rw [HL.out, hfd]; simp [encS]
          clear hfd hxe HL
          generalize hR : encSs (ss.drop (k + 1)) ++ (encs ns ++ encBs bs) = R at hl2
          have hxI : I64 (x.length : Int) := by
            unfold I64
            have := congrArg List.length hl2
            simp at this; omega
          have hRl : R.length ≤ 1000000 := by have := congrArg List.length hl2; simp at this; omega
          have HG := Lib.hid (grp_enc x.length hxI (x ++ R))
          have HD := Lib.hid (show (enc x.length ++ (x ++ R)).drop (enc x.length).length = x ++ R from List.drop_left)
          have HR := Lib.hid hR
          clear hR
          subst hl2
          go_wp2_with fail
          refine (rstr_ok br _ (x ++ R) false _ hrd hll' _ _ x.length HG HD (Lib.hid (unzig_zigzag _)) (by simp)).mono ?_
          rintro e w6 ⟨rfl, hrd6, hg6⟩
          rw [List.take_left]
          rw [List.drop_left] at hrd6
          have hbl6 := hblq.grown hg6 hblq.size (by intro q hq; simp at hq; omega)
          go_wp2_with fail
          exact ⟨⟨k + 1, R, by omega, by go_num, hrd6, hRl, HR.out.symm, hbl6⟩, by simp [intOf]; omega⟩
        · have hl3 : l = encs ns ++ encBs bs := by
            have := HL.out
            rw [List.drop_eq_nil_of_le (by rw [hr1.1]; omega)] at this
            simpa [encSs] using this
          clear HL
          subst hl3
          go_wp2_with fail
          clear hk hlt hll hll'
          go_loopw [69] (fun i wq => ∃ (k : Nat) (l : List UInt8), k ≤ n0 ∧ i = .int .i64 k ∧ Rd wq br l false ∧ l.length ≤ 1000000 ∧ Hid (l = encs (ns.drop k) ++ encBs bs) ∧ Below w.heap.size w wq) (fun i _ => n0 - (intOf i).toNat)
          case atStart => exact ⟨0, _, by omega, rfl, hrd, hT2, rfl, hblq⟩
          case round =>
            clear hrd hblq hT2
            obtain ⟨k, l, hk, rfl, hrd, hll, HL, hblq⟩ := hrel
            have hll' : l.length ≤ maxLen := by unfold maxLen; omega
            by_cases hlt : k < n0
            · obtain ⟨c, off, rfl, hc, hx⟩ := nums_at hr0 hblq hlt
              have hkl : k < ns.length := by rw [hr0.1]; exact hlt
              have hfd : encs (ns.drop k) = enc (ns.getD k 0) ++ encs (ns.drop (k + 1)) := flat_drop enc ns 0 k hkl
              have hxI := getD_I64 HI.out hkl
              obtain ⟨x, hxe⟩ : ∃ x, ns.getD k 0 = x := ⟨_, rfl⟩
              rw [hxe] at hx hfd hxI
              have hl2 : l = enc x ++ (encs (ns.drop (k + 1)) ++ encBs bs) := by rw [HL.out, hfd]; simp
              clear hfd hxe HL
              generalize hR : encs (ns.drop (k + 1)) ++ encBs bs = R at hl2
              have hRl : R.length ≤ 1000000 := by have := congrArg List.length hl2; simp at this; omega
              have HG := Lib.hid (grp_enc x hxI R)
              have HR := Lib.hid hR
              clear hR
              subst hl2
              go_wp2_with fail
              refine (rint_some br _ false _ hrd hll' _ _ HG).mono ?_
              rintro e w6 ⟨rfl, hrd6, hg6⟩
              rw [unzig_zigzag]
              rw [List.drop_left] at hrd6
              have hbl6 := hblq.grown hg6 hblq.size (by intro q hq; simp at hq; omega)
              go_wp2_with fail
              exact ⟨⟨k + 1, R, by omega, by go_num, hrd6, hRl, HR.out.symm, hbl6⟩, by simp [intOf]; omega⟩
            · have hl3 : l = encBs bs := by
                have := HL.out
                rw [List.drop_eq_nil_of_le (by rw [hr0.1]; omega)] at this
                simpa [encs] using this
              clear HL
              subst hl3
              go_wp2_with fail
              clear hk hlt hll hll'
              go_loopw [80] (fun i wq => ∃ (k : Nat) (l : List UInt8), k ≤ n2 ∧ i = .int .i64 k ∧ Rd wq br l false ∧ l.length ≤ 1000000 ∧ Hid (l = encBs (bs.drop k)) ∧ Below w.heap.size w wq) (fun i _ => n2 - (intOf i).toNat)
              case atStart => exact ⟨0, _, by omega, rfl, hrd, hT3, rfl, hblq⟩
              case round =>
                clear hrd hblq hT3
                obtain ⟨k, l, hk, rfl, hrd, hll, HL, hblq⟩ := hrel
                have hll' : l.length ≤ maxLen := by unfold maxLen; omega
                by_cases hlt : k < n2
                · obtain ⟨c, off, rfl, hc, hx⟩ := bools_at hr2 hblq hlt
                  have hkl : k < bs.length := by rw [hr2.1]; exact hlt
                  have hfd : encBs (bs.drop k) = encB (bs.getD k false) ++ encBs (bs.drop (k + 1)) := flat_drop encB bs false k hkl
                  obtain ⟨x, hxe⟩ : ∃ x, bs.getD k false = x := ⟨_, rfl⟩
                  rw [hxe] at hx hfd
                  have hl2 : l = enc (if x then 1 else 0) ++ encBs (bs.drop (k + 1)) := by rw [HL.out, hfd]; rfl
                  clear hfd hxe HL
                  generalize hR : encBs (bs.drop (k + 1)) = R at hl2
                  have hRl : R.length ≤ 1000000 := by have := congrArg List.length hl2; simp at this; omega
                  have HG := Lib.hid (grp_enc (if x then 1 else 0) (by unfold I64; split <;> omega) R)
                  have HR := Lib.hid hR
                  clear hR
                  have hrd' := hrd
                  rw [hl2] at hrd' hll'
                  clear hrd
                  go_wp2_with fail
                  refine (rbool_ok br _ false x _ hrd' hll' _ _ HG (Lib.hid (unzig_zigzag _))).mono ?_
                  rintro e w6 ⟨rfl, hrd6, hg6⟩
                  rw [List.drop_left] at hrd6
                  have hbl6 := hblq.grown hg6 hblq.size (by intro q hq; simp at hq; omega)
                  clear hl2 HG hll' hrd'
                  go_wp2_with fail
                  exact ⟨⟨k + 1, R, by omega, by go_num, hrd6, hRl, HR.out.symm, hbl6⟩, by simp [intOf]; omega⟩
                · have hl3 : l = [] := by
                    have := HL.out
                    rw [List.drop_eq_nil_of_le (by rw [hr2.1]; omega)] at this
                    simpa [encBs] using this
                  clear HL
                  subst hl3
                  go_wp2_with fail
                  refine (end_any br _ _ _ hrd).mono ?_
                  rintro e w7 ⟨rfl, rfl⟩
                  rw [show endOf [] false = 0 by simp [endOf]]
                  go_wp2
                  go_ret
                  exact ⟨rfl, hblq⟩

set_option maxHeartbeats 400000 in
theorem packBack_main (A0 : Option Addr) (n0 c0 : Nat) (ns : List Int) (A1 : Option Addr) (n1 c1 : Nat) (ss : List (List UInt8)) (A2 : Option Addr) (n2 c2 : Nat) (bs : List Bool) (w : World)
    (hr0 : Nums w A0 n0 ns) (hI : ∀ m ∈ ns, I64 m) (_ : n0 ≤ maxLen) (hr1 : Strs w A1 n1 ss) (hs1 : ∀ s ∈ ss, s.length ≤ maxLen) (_ : n1 ≤ maxLen) (hr2 : Bools w A2 n2 bs) (_ : n2 ≤ maxLen) :
    Calls Try.prog 5 #[.slice A0 n0 c0, .slice A1 n1 c1, .slice A2 n2 c2] w fun e w' => e = .returned (.bool true) ∧ Below w.heap.size w w' := by
  by_cases h0 : n0 ≤ 60
  · by_cases h1 : n1 ≤ 60
    · by_cases h2 : n2 ≤ 60
      · exact packBack_walk A0 n0 c0 ns A1 n1 c1 ss A2 n2 c2 bs w hr0 hI hr1 hs1 hr2 h0 h1 h2
      · have g0 : decide ((60 : Int) < n0) = false := by simp; omega
        have g1 : decide ((60 : Int) < n1) = false := by simp; omega
        have g2 : decide ((60 : Int) < n2) = true := by simp; omega
        clear hI hs1 hr0 hr1 hr2
        go_enter Try.func5, Try.ntmps5
        go_wp2_with fail
        refine (alive_any _).mono ?_
        rintro e w1 ⟨rfl, hbel⟩
        go_wp2_with fail
        go_ret
        exact ⟨rfl, hbel⟩
    · have g0 : decide ((60 : Int) < n0) = false := by simp; omega
      have g1 : decide ((60 : Int) < n1) = true := by simp; omega
      clear hI hs1 hr0 hr1 hr2
      go_enter Try.func5, Try.ntmps5
      go_wp2_with fail
      refine (alive_any _).mono ?_
      rintro e w1 ⟨rfl, hbel⟩
      go_wp2_with fail
      go_ret
      exact ⟨rfl, hbel⟩
  · have g0 : decide ((60 : Int) < n0) = true := by simp; omega
    clear hI hs1 hr0 hr1 hr2
    go_enter Try.func5, Try.ntmps5
    go_wp2_with fail
    refine (alive_any _).mono ?_
    rintro e w1 ⟨rfl, hbel⟩
    go_wp2_with fail
    go_ret
    exact ⟨rfl, hbel⟩
end Go.Proofs.Ytlheijpfmihhaaa
