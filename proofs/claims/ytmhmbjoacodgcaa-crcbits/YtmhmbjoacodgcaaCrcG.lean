/- The walk of CrcBits. -/
import Derived.Test.YtmhmbjoacodgcaaCrcF
import Derived.BigQuiet
import Derived.WalkSmall
namespace Go.Proofs.Ytmhmbjoacodgcaa
open Go.RowKit

/-- Block g: the bytes u and what lies behind them, the place past the end marked ('[]byte(text)'). -/
def Lain (w : World) (g : Nat) (e : TypeId) (u : List UInt8) : Prop :=
  ∃ C : Array Value, w.heap[g]? = some (.cells C e (C.size, C.size + 1)) ∧ u.length ≤ C.size ∧ ∀ i, i < u.length → C[i]? = some (.int .u8 (((u.getD i 0).toNat : Nat) : Int))
section
variable {w w' : World} {g : Nat} {e : TypeId} {u : List UInt8}
theorem Lain.cell (h : Lain w g e u) {i : Nat} (hi : i < u.length) : w.cell? ⟨g, i, none⟩ = some (.int .u8 (((u.getD i 0).toNat : Nat) : Int)) := by
  obtain ⟨C, h1, h2, h3⟩ := h
  rw [cell_of_row w g i C e _ h1]
  exact h3 i hi
theorem Lain.unfrozen (h : Lain w g e u) {i : Nat} (hi : i < u.length) : w.frozen? ⟨g, i, none⟩ = false := by
  obtain ⟨C, h1, h2, h3⟩ := h
  simp [World.frozen?, h1]
  omega
theorem Lain.lt (h : Lain w g e u) : g < w.heap.size := by
  obtain ⟨C, h1, _, _⟩ := h
  exact (Array.getElem?_eq_some_iff.1 h1).1
theorem Lain.keep (h : Lain w g e u) (k : w'.heap[g]? = w.heap[g]?) : Lain w' g e u := by
  obtain ⟨C, h1, h2⟩ := h
  exact ⟨C, k.trans h1, h2⟩
theorem Lain.put (h : Lain w g e u) {i : Nat} (hi : i < u.length) {b : Nat} (hb : b < 256) : Lain (w.setCell ⟨g, i, none⟩ (.int .u8 (b : Int))) g e (u.set i b.toUInt8) := by
  obtain ⟨C, h1, h2, h3⟩ := h
  refine ⟨C.setIfInBounds i (.int .u8 (b : Int)), ?_, by simpa using h2, fun j hj => ?_⟩
  · simp [World.setCell, Array.getElem?_modify, h1]
  · rw [List.length_set] at hj
    by_cases hij : i = j
    · subst hij
      rw [Array.getElem?_setIfInBounds_self_of_lt (by omega)]
      rw [List.getD_eq_getElem?_getD, List.getElem?_set_self hi, Option.getD_some, Lib.toUInt8_toNat hb]
    · rw [Array.getElem?_setIfInBounds_ne hij, h3 j hj, List.getD_eq_getElem?_getD, List.getD_eq_getElem?_getD, List.getElem?_set_ne hij]
theorem Lain.conv {P : Program} (h : Lain w g e u) (src dst : TypeId) (hs : P.underlying src = some (.slice e)) (he : P.underlying e = some (.int .u8)) (hd : P.underlying dst = some .string) (n cap : Nat) (hn : u.length = n) :
    (convert src dst (.slice (some ⟨g, 0, none⟩) n cap)).run P w = .ok (.string ⟨u.toArray⟩) w := by
  subst hn
  refine run_convert_bytes_back w src dst e ⟨g, 0, none⟩ cap u hs he hd fun j hj => ?_
  have := h.cell hj
  rw [List.getD_eq_getElem?_getD, List.getElem?_eq_getElem hj, Option.getD_some] at this
  have e : (⟨g, 0, none⟩ : Addr).add j = ⟨g, j, none⟩ := by cases j <;> simp [Addr.add]
  rw [e]
  exact this
end
theorem lay_bytes {P : Program} (w : World) (src dst e : TypeId) (u : List UInt8) (hs : P.underlying src = some .string) (hd : P.underlying dst = some (.slice e)) (he : P.underlying e = some (.int .u8)) (s : ByteArray) (hu : s = ⟨u.toArray⟩) :
    ∃ cap w', (convert src dst (.string s)).run P w = .ok (.slice (some ⟨w.heap.size, 0, none⟩) u.length cap) w' ∧ Lain w' w.heap.size e u ∧ Below w.heap.size w w' := by
  subst hu
  have hsz : (ByteArray.mk u.toArray).size = u.length := by simp [ByteArray.size]
  refine ⟨_, _, by rw [run_bytes_of_string w src dst e _ hs hd he, hsz], ?_, ?_⟩
  · refine ⟨_, heap_alloc_new w.drew _, by simp [bytesRow], fun i hi => ?_⟩
    have h2 : i < (Array.map (fun b : UInt8 => Value.int .u8 (b.toNat : Int)) u.toArray).size := by simpa using hi
    unfold bytesRow
    rw [Array.getElem?_append_left h2, List.getD_eq_getElem?_getD, List.getElem?_eq_getElem hi, Option.getD_some]
    simp [hi]
  · exact ((Below.refl w.heap.size w).drew).alloc (Nat.le_refl _) _

theorem shl_byte (k : Nat) (h : k < 8) : (2 : Int) ^ k % 256 = ((2 ^ k : Nat) : Int) := by
  have h8 := pow8 h
  have e : ((2 ^ k : Nat) : Int) = (2 : Int) ^ k := Int.natCast_pow 2 k
  rw [← e]
  generalize 2 ^ k = z at *
  omega
theorem checkRes_none' : checkRes none = .tuple #[.string ⟨#[]⟩, .bool false] := rfl
/-- The place of a bit. -/
def place (x : Int) (n : Nat) : Nat := (IntKind.u64.wrap x % (n : Int)).toNat
theorem place_spec (x : Int) (n : Nat) (h : 0 < n) : IntKind.u64.wrap x % (n : Int) = (place x n : Int) ∧ place x n < n := by
  have h1 := Int.emod_nonneg (IntKind.u64.wrap x) (b := (n : Int)) (by omega)
  have h2 := Int.emod_lt_of_pos (IntKind.u64.wrap x) (b := (n : Int)) (by omega)
  unfold place
  omega

theorem place_form (x : Int) (n : Nat) (h : n ≤ 400) : wrap64 ((IntKind.u64.wrap x).tmod (8 * ((n : Int) + 4))) = (place x (8 * (n + 4)) : Int) := by
  obtain ⟨h1, h2⟩ := place_spec x (8 * (n + 4)) (by omega)
  have h0 : 0 ≤ IntKind.u64.wrap x := by rw [IntKind.wrap_u64]; omega
  rw [Int.tmod_eq_emod_of_nonneg h0, show (8 * ((n : Int) + 4)) = ((8 * (n + 4) : Nat) : Int) by omega, h1]
  unfold wrap64
  omega
theorem flip_xor (b : UInt8) {k : Nat} (h : k < 8) : bits .xor .u8 (b.toNat : Int) ((2 ^ k : Nat) : Int) = ((b.toNat ^^^ 2 ^ k : Nat) : Int) := u8_xor_nat _ _ b.toNat_lt (pow8 h)

set_option maxRecDepth 100000 in
set_option maxHeartbeats 800000 in
theorem crcBits_live (s : List UInt8) (a b c many : Int) (w : World) (hs : s.length ≤ 400) (h1 : 1 ≤ many) (h3 : many ≤ 3) :
    Calls Try.prog 5 #[.string ⟨s.toArray⟩, .int .i64 a, .int .i64 b, .int .i64 c, .int .i64 many] w fun e w' => e = .returned (.bool true) ∧ Below w.heap.size w w' := by
  have hsm : s.length ≤ maxLen := by unfold maxLen; omega
  have h1' : ¬ (400 : Int) < (s.length : Int) := by omega
  have h2' : ¬ many < 1 := by omega
  have h3' : ¬ 3 < many := by omega
  have htl : (tailOf (crcOf s)).length = 4 := tails_length 4 _
  have hql := crcOf_lt s
  obtain ⟨q, hq⟩ : ∃ q, crcOf s = q := ⟨_, rfl⟩
  rw [hq] at htl hql
  have HQ := Lib.hid hq
  clear hq
  obtain ⟨l, hl⟩ : ∃ l, tailOf q = l := ⟨_, rfl⟩
  rw [hl] at htl
  have HL := Lib.hid hl
  clear hl
  go_enter Try.func5, Try.ntmps5
  go_wp2_with fail
  refine (alive_any _).mono ?_
  rintro e w1 ⟨rfl, hb1⟩
  go_wp2_with fail
  refine (of_one' s hsm w1 _).mono ?_
  rintro e w2 ⟨rfl, c2⟩
  have b2 := below_in' hb1 c2
  clear c2 hb1
  rw [HQ.out]
  go_wp2_with fail
  refine (tail_any q hql _).mono ?_
  rintro e w3 ⟨rfl, c3⟩
  have b3 := below_in' b2 c3
  clear c3 b2
  rw [HL.out]
  obtain ⟨cap, w4, hcv, hl4, c4⟩ := lay_bytes (P := Try.prog) w3 9 31 5 (s ++ l) Try.underlying9 Try.underlying31 Try.underlying5 (⟨s.toArray⟩ ++ ⟨l.toArray⟩) (ByteArray.mk_append_mk s l)
  have b4 := below_in' b3 c4
  have hg4 : w.heap.size ≤ w3.heap.size := b3.size
  obtain ⟨g, hg⟩ : ∃ g, w3.heap.size = g := ⟨_, rfl⟩
  rw [hg] at hcv hl4 hg4
  have hN : (s ++ l).length = s.length + 4 := by rw [List.length_append, htl]
  rw [hN] at hcv
  clear c4 b3 hg
  obtain ⟨v, hv⟩ : ∃ v, s ++ l = v := ⟨_, rfl⟩
  rw [hv] at hl4 hN
  have HV := Lib.hid hv
  clear hv
  have hne : g < w4.heap.size := hl4.lt
  obtain ⟨bs, hbs⟩ : ∃ bs : List Int, bs = [a, b, c] := ⟨_, rfl⟩
  obtain ⟨pl, hpl⟩ : ∃ pl : Nat → Nat, ∀ i, pl i = place (bs.getD i 0) (8 * (s.length + 4)) := ⟨_, fun _ => rfl⟩
  go_wp2_with fail
  go_loopw [13] (fun i wr => ∃ (k : Nat), i = .int .i64 k ∧ (k : Int) ≤ many ∧ Lain wr g 5 (flips ((List.range k).map pl) v) ∧ At wr w4.heap.size 32 #[.int .i64 a, .int .i64 b, .int .i64 c] ∧ Below w.heap.size w wr ∧ Hid (∀ i j, i < j → j < k → pl i ≠ pl j)) (fun i _ => (many - intOf i).toNat)
  case atStart =>
    refine ⟨0, rfl, by omega, hl4.keep (Below.heap_alloc _ _ _ hne), At.fresh _ _ _, b4.alloc b4.size _, ?_⟩
    exact (fun i j _ h => by omega : ∀ i j, i < j → j < 0 → pl i ≠ pl j)
  case round =>
    obtain ⟨k, rfl, hk, hL, hA, hB, hD⟩ := hrel
    by_cases hlt : (k : Int) < many
    · have hk3 : k < 3 := by omega
      have hc0 : wr.cell? ⟨w4.heap.size, k, none⟩ = some (.int .i64 (bs.getD k 0)) := by
        have := At.cell hA k
        rw [this, hbs]
        match k, hk3 with
        | 0, _ => rfl
        | 1, _ => rfl
        | 2, _ => rfl
      have hp := place_form (bs.getD k 0) s.length hs
      have hpn := (place_spec (bs.getD k 0) (8 * (s.length + 4)) (by omega)).2
      rw [← hpl k] at hp hpn
      obtain ⟨x, hx⟩ : ∃ x, bs.getD k 0 = x := ⟨_, rfl⟩
      rw [hx] at hc0 hp
      obtain ⟨p, hpk⟩ : ∃ p, pl k = p := ⟨_, rfl⟩
      rw [hpk] at hp hpn
      have HPK := Lib.hid hpk
      clear hx hpk
      go_wp2_with fail
      go_loopw [15] (fun i wq => ∃ (m : Nat), i = .int .i64 m ∧ m ≤ k ∧ wq = wr ∧ Hid (∀ i, i < m → pl i ≠ pl k)) (fun i _ => (k - intOf i).toNat)
      case atStart => exact ⟨0, rfl, by omega, rfl, (fun i h => by omega : ∀ i, i < 0 → pl i ≠ pl k)⟩
      case round =>
        obtain ⟨m, rfl, hm, rfl, hE⟩ := hrel
        by_cases hmk : m < k
        · have hd0 : wr.cell? ⟨w4.heap.size, m, none⟩ = some (.int .i64 (bs.getD m 0)) := by
            have := At.cell hA m
            rw [this, hbs]
            match m, Nat.lt_trans hmk hk3 with
            | 0, _ => rfl
            | 1, _ => rfl
            | 2, _ => rfl
          have hr := place_form (bs.getD m 0) s.length hs
          rw [← hpl m] at hr
          obtain ⟨y, hy⟩ : ∃ y, bs.getD m 0 = y := ⟨_, rfl⟩
          rw [hy] at hd0 hr
          obtain ⟨r, hrm⟩ : ∃ r, pl m = r := ⟨_, rfl⟩
          rw [hrm] at hr
          have HRM := Lib.hid hrm
          clear hy hrm
          by_cases heq : r = p
          · have heq' : ((r : Int) == (p : Int)) = true := by simp; omega
            go_wp2_with fail
            go_ret
            exact ⟨rfl, hB⟩
          · have heq' : ((r : Int) == (p : Int)) = false := by simp; omega
            go_wp2_with fail
            refine ⟨⟨m + 1, rfl, by omega, trivial, ?_⟩, by simp [intOf]; omega⟩
            have hE' : ∀ i, i < m + 1 → pl i ≠ pl k := fun i hi => by
              by_cases him : i = m
              · rw [him, HRM.out, HPK.out]; exact heq
              · exact hE.out i (by omega)
            exact hE'
        · obtain rfl : m = k := by omega
          have hul : (flips ((List.range m).map pl) v).length = s.length + 4 := by rw [flips_length, hN]
          obtain ⟨u, hu⟩ : ∃ u, flips ((List.range m).map pl) v = u := ⟨_, rfl⟩
          rw [hu] at hL hul
          have HU := Lib.hid hu
          clear hu
          have hi : p / 8 < u.length := by omega
          have hx1 := hL.cell hi
          have hx2 := hL.unfrozen hi
          have hx3 := flip_xor (u.getD (p / 8) 0) (k := p % 8) (by omega)
          have hx4 := flip_byte (u.getD (p / 8) 0) (k := p % 8) (by omega)
          have hLp := hL.put hi hx4
          obtain ⟨f, hf⟩ : ∃ f, (u.getD (p / 8) 0).toNat = f := ⟨_, rfl⟩
          have hfl : f < 256 := by rw [← hf]; exact (u.getD (p / 8) 0).toNat_lt
          rw [hf] at hx1 hx3 hx4 hLp
          have HF := Lib.hid hf
          clear hf
          go_wp2_with fail
          have hsh := shl_byte (p % 8) (by omega)
          rw [hsh, hx3]
          refine ⟨⟨m + 1, rfl, by omega, ?_, hA.elsewhere (p := ⟨g, p / 8, none⟩) (Nat.ne_of_gt hne) _, ?_, ?_⟩, by simp [intOf]; omega⟩
          · rw [List.range_succ, List.map_append, List.map_cons, List.map_nil, flips_snoc, HU.out, HPK.out]
            unfold flipAt
            rw [HF.out]
            exact hLp
          · exact hB.trans ⟨rfl, rfl, rfl, by simp [World.setCell], fun k hk => Below.heap_setCell _ _ _ _ (by show k ≠ g; omega)⟩
          · have hD' : ∀ i j, i < j → j < m + 1 → pl i ≠ pl j := fun i j hij hj => by
              by_cases hjm : j = m
              · subst hjm; exact hE.out i hij
              · exact hD.out i j hij (by omega)
            exact hD'
    · have hkm : (k : Int) = many := by omega
      have hul : (flips ((List.range k).map pl) v).length = s.length + 4 := by rw [flips_length, hN]
      have hno : checkOf (flips ((List.range k).map pl) v) = none := by
        rw [← HV.out, ← HL.out, ← HQ.out]
        refine bits_fail hs _ (by simp; omega) (by simp; omega) (fun q hq => ?_) ?_
        · obtain ⟨i, _, rfl⟩ := List.mem_map.1 hq
          rw [hpl i]
          exact (place_spec _ _ (by omega)).2
        · rw [List.nodup_iff_pairwise_ne, List.pairwise_map]
          refine List.Pairwise.imp_of_mem (fun {i j} _ hj hij => hD.out i j hij (List.mem_range.1 hj)) List.pairwise_lt_range
      obtain ⟨u, hu⟩ : ∃ u, flips ((List.range k).map pl) v = u := ⟨_, rfl⟩
      rw [hu] at hL hul hno
      have HNO := Lib.hid hno
      clear hu hno
      have hum : u.length ≤ maxLen := by rw [hul]; unfold maxLen; omega
      have hcb := hL.conv (P := Try.prog) 31 9 Try.underlying31 Try.underlying5 Try.underlying9 (s.length + 4) cap hul
      go_wp2_with fail
      refine (check_any u hum _).mono ?_
      rintro e w7 ⟨rfl, c7⟩
      rw [HNO.out, checkRes_none']
      go_wp2_with fail
      go_ret
      exact ⟨rfl, below_in' hB c7⟩

set_option maxRecDepth 100000 in
set_option maxHeartbeats 400000 in
theorem crcBits_big (s : List UInt8) (a b c many : Int) (w : World) (hs : s.length ≤ maxLen) (h : ¬ s.length ≤ 400) :
    Calls Try.prog 5 #[.string ⟨s.toArray⟩, .int .i64 a, .int .i64 b, .int .i64 c, .int .i64 many] w fun e w' => e = .returned (.bool true) ∧ Below w.heap.size w w' := by
  have h1' : (400 : Int) < (s.length : Int) := by omega
  have hs' : s.length < 9223372036854775808 := by unfold maxLen at hs; omega
  go_enter Try.func5, Try.ntmps5
  go_wp2_with fail
  refine (alive_any _).mono ?_
  rintro e w1 ⟨rfl, hb1⟩
  go_wp2_with fail
  go_ret
  exact ⟨rfl, hb1⟩

set_option maxRecDepth 100000 in
set_option maxHeartbeats 400000 in
theorem crcBits_few (s : List UInt8) (a b c many : Int) (w : World) (hs : s.length ≤ 400) (h : many < 1) :
    Calls Try.prog 5 #[.string ⟨s.toArray⟩, .int .i64 a, .int .i64 b, .int .i64 c, .int .i64 many] w fun e w' => e = .returned (.bool true) ∧ Below w.heap.size w w' := by
  have h1' : ¬ (400 : Int) < (s.length : Int) := by omega
  go_enter Try.func5, Try.ntmps5
  go_wp2_with fail
  refine (alive_any _).mono ?_
  rintro e w1 ⟨rfl, hb1⟩
  go_wp2_with fail
  go_ret
  exact ⟨rfl, hb1⟩

set_option maxRecDepth 100000 in
set_option maxHeartbeats 400000 in
theorem crcBits_many (s : List UInt8) (a b c many : Int) (w : World) (hs : s.length ≤ 400) (h : 3 < many) :
    Calls Try.prog 5 #[.string ⟨s.toArray⟩, .int .i64 a, .int .i64 b, .int .i64 c, .int .i64 many] w fun e w' => e = .returned (.bool true) ∧ Below w.heap.size w w' := by
  have h1' : ¬ (400 : Int) < (s.length : Int) := by omega
  have h2' : ¬ many < 1 := by omega
  go_enter Try.func5, Try.ntmps5
  go_wp2_with fail
  refine (alive_any _).mono ?_
  rintro e w1 ⟨rfl, hb1⟩
  go_wp2_with fail
  go_ret
  exact ⟨rfl, hb1⟩

theorem crcBits_main (s : List UInt8) (a b c many : Int) (w : World) (hs : s.length ≤ maxLen) (_ : I64 a) (_ : I64 b) (_ : I64 c) (_ : I64 many) :
    Calls Try.prog 5 #[.string ⟨s.toArray⟩, .int .i64 a, .int .i64 b, .int .i64 c, .int .i64 many] w fun e w' => e = .returned (.bool true) ∧ Below w.heap.size w w' := by
  by_cases h : s.length ≤ 400
  · by_cases h1 : many < 1
    · exact crcBits_few s a b c many w h h1
    · by_cases h3 : 3 < many
      · exact crcBits_many s a b c many w h h3
      · exact crcBits_live s a b c many w h (by omega) (by omega)
  · exact crcBits_big s a b c many w hs h
end Go.Proofs.Ytmhmbjoacodgcaa
