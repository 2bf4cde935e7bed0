/- The walk of the law PackCuts. -/
import Derived.Test.YtlheijpfmihhaaaPackE
import Derived.Test.YtlheijpfmihhaaaPackM
namespace Go.Proofs.Ytlheijpfmihhaaa
open Go.RowKit

theorem encs_append (a b : List Int) : encs (a ++ b) = encs a ++ encs b := by simp [encs]
theorem encs_cons (n : Int) (r : List Int) : encs (n :: r) = enc n ++ encs r := by simp [encs]
theorem drop_cons (ns : List Int) (k : Nat) (h : k < ns.length) : ns.drop k = ns.getD k 0 :: ns.drop (k + 1) := by
  rw [List.drop_eq_getElem_cons h]
  simp [List.getElem?_eq_getElem h]

def CutInv (ns : List Int) (cut k : Nat) (l : List UInt8) (f : Bool) : Prop :=
  (f = false ∧ (encs (ns.take k)).length ≤ cut ∧ l = (encs (ns.drop k)).take (cut - (encs (ns.take k)).length)) ∨ (f = true ∧ l = [] ∧ cut < (encs ns).length)

theorem CutInv.start (ns : List Int) (cut : Nat) : CutInv ns cut 0 ((encs ns).take cut) false := .inl ⟨rfl, by simp [encs], by simp [encs]⟩

theorem encs_split (ns : List Int) (k : Nat) : (encs ns).length = (encs (ns.take k)).length + (encs (ns.drop k)).length := by
  rw [← List.length_append, ← encs_append, List.take_append_drop]

theorem CutInv.step {ns : List Int} {cut k : Nat} {l : List UInt8} {f : Bool} (h : CutInv ns cut k l f) (hk : k < ns.length) (hI : I64 (ns.getD k 0)) :
    (∃ m, grp 0 0 l = some (Lib.zigzag (ns.getD k 0), m) ∧ CutInv ns cut (k + 1) (l.drop m) f) ∨ (grp 0 0 l = none ∧ CutInv ns cut (k + 1) [] true) := by
  rcases h with ⟨rfl, h1, rfl⟩ | ⟨rfl, rfl, h2⟩
  · rw [drop_cons ns k hk, encs_cons]
    have hsn := encs_snoc ns k hk
    have hln : (encs (ns.take (k + 1))).length = (encs (ns.take k)).length + (enc (ns.getD k 0)).length := by rw [hsn, List.length_append]
    have hsp := encs_split ns (k + 1)
    generalize hc : cut - (encs (ns.take k)).length = c
    by_cases hlt : c < (enc (ns.getD k 0)).length
    · right
      rw [List.take_append_of_le_length (by omega)]
      exact ⟨grp_enc_cut _ _ hlt, .inr ⟨rfl, rfl, by omega⟩⟩
    · left
      rw [List.take_append, List.take_of_length_le (by omega)]
      refine ⟨_, grp_enc _ hI _, .inl ⟨rfl, by omega, ?_⟩⟩
      rw [List.drop_left]
      congr 1
      omega
  · right
    exact ⟨grp_nil _ _, .inr ⟨rfl, rfl, h2⟩⟩

theorem CutInv.len {ns : List Int} {cut k : Nat} {l : List UInt8} {f : Bool} (h : CutInv ns cut k l f) : l.length ≤ (encs ns).length := by
  rcases h with ⟨rfl, h1, rfl⟩ | ⟨rfl, rfl, h2⟩
  · have := encs_split ns k
    have h2 := List.length_take_le (cut - (encs (ns.take k)).length) (encs (ns.drop k))
    have h3 : (List.take (cut - (encs (ns.take k)).length) (encs (ns.drop k))).length ≤ (encs (ns.drop k)).length := by simp; omega
    omega
  · simp

theorem CutInv.last {ns : List Int} {cut : Nat} {l : List UInt8} {f : Bool} (h : CutInv ns cut ns.length l f) (hc : cut ≤ (encs ns).length) :
    (endOf l f = 0 ∧ cut = (encs ns).length) ∨ (endOf l f = 4 ∧ cut ≠ (encs ns).length) := by
  rcases h with ⟨rfl, h1, rfl⟩ | ⟨rfl, rfl, h2⟩
  · left
    rw [List.take_of_length_le (Nat.le_refl _)] at h1
    exact ⟨by simp [endOf, encs], by omega⟩
  · right
    exact ⟨by simp [endOf], by omega⟩

theorem nums_at {w wr : World} {A : Option Addr} {n k : Nat} {ns : List Int} (hr : Nums w A n ns) (hb : Below w.heap.size w wr) (hk : k < n) :
    ∃ b off, A = some ⟨b, off, none⟩ ∧ b < w.heap.size ∧ wr.cell? ⟨b, off + k, none⟩ = some (.int .i64 (ns.getD k 0)) := by
  obtain ⟨b, off, rfl, h1, h2⟩ := hr.2 (by omega)
  exact ⟨b, off, rfl, h1, (hb.cell (p := ⟨b, off + k, none⟩) h1).trans (h2 k hk)⟩

theorem getD_I64 {ns : List Int} (hI : ∀ m ∈ ns, I64 m) {k : Nat} (hk : k < ns.length) : I64 (ns.getD k 0) := by
  apply hI
  simp [List.getElem?_eq_getElem hk]

theorem mk_append (a b : List UInt8) : ByteArray.mk (a ++ b).toArray = ByteArray.mk a.toArray ++ ByteArray.mk b.toArray := (ByteArray.mk_append_mk a b).symm

/-- The law's first loop: at round k. -/
def CutsOne (w : World) (bw : Nat) (ns : List Int) (k : Nat) (wr : World) : Prop :=
  ∃ v, At wr bw 29 #[v] ∧ Owns wr w.heap.size 5 v (encs (ns.take k)) ∧ Below w.heap.size w wr

set_option maxHeartbeats 1000000 in
theorem packCuts_walk (A : Option Addr) (n cap : Nat) (ns : List Int) (cut : Int) (w : World) (hr : Nums w A n ns) (hI : ∀ m ∈ ns, I64 m) (hcI : I64 cut) (hn : n ≤ 40) :
    Calls Try.prog 7 #[.slice A n cap, .int .i64 cut] w fun e w' => e = .returned (.bool true) ∧ Below w.heap.size w w' := by
  have hn40 : decide ((40 : Int) < n) = false := by simp; omega
  have hlen : (encs ns).length ≤ 400 := by have := encs_len ns hI; rw [hr.1] at this; omega
  have HI := Lib.hid hI
  clear hI
  go_enter Try.func7, Try.ntmps7
  go_wp2_with fail
  refine (alive_any _).mono ?_
  rintro e w1 ⟨rfl, hbel⟩
  go_wp2_with fail
  have hbw : w.heap.size ≤ w1.heap.size := hbel.size
  go_loopw [6, 23] (fun al i wr => ∃ k : Nat, k ≤ n ∧ i = .int .i64 k ∧ al = .string ⟨(encs (ns.take k)).toArray⟩ ∧ CutsOne w w1.heap.size ns k wr) (fun _ i _ => n - (intOf i).toNat)
  case atStart => exact ⟨0, by omega, rfl, rfl, _, At.fresh _ _ _, Owns.nil _ _ _, hbel.alloc hbw _⟩
  case round =>
    obtain ⟨k, hk, rfl, rfl, v, hb, ho, hbl⟩ := hrel
    by_cases hlt : k < n
    · obtain ⟨c, off, rfl, hc, hx⟩ := nums_at hr hbl hlt
      have hkl : k < ns.length := by rw [hr.1]; exact hlt
      have hxI := getD_I64 HI.out hkl
      have hsn := encs_snoc ns k hkl
      obtain ⟨x, hxe⟩ : ∃ x, ns.getD k 0 = x := ⟨_, rfl⟩
      rw [hxe] at hx hxI hsn
      have HS := Lib.hid hsn
      clear hsn hxe
      have hl1 : (encs (ns.take k)).length ≤ 400 := by have := encs_split ns k; omega
      have hl2 : (enc x).length ≤ 10 := enc_len hxI
      go_wp2_with fail
      refine (wint_one w1.heap.size w.heap.size v _ x wr hb ho hbl.size hxI (by omega)).mono ?_
      rintro e w2 ⟨rfl, v2, hb2, ho2, hg2⟩
      have hbl2 : Below w.heap.size w w2 := hbl.trans (hg2.below hbl.size hbw (fun g hg => (ho.lt g hg).1))
      go_wp2_with fail
      refine (wint_new w.heap.size x w2 hbl2.size hxI).mono ?_
      rintro e w3 ⟨rfl, v3, hb3, ho3, hg3⟩
      have hlt2 := hb2.lt
      have hbl3 : Below w.heap.size w w3 := hbl2.trans (hg3.below hbl2.size hbl2.size (by simp [Value.ownBlock]))
      have hb3' : At w3 w1.heap.size 29 #[v2] := hg3.at_ hb2 (by omega) (by simp [Value.ownBlock])
      have ho3' : Owns w3 w.heap.size 5 v2 (encs (ns.take k) ++ enc x) := hg3.owns ho2 (fun e => by have := ho2.lt _ e; omega) (by
        cases hv : v2.ownBlock with
        | none => exact .inl rfl
        | some g => exact .inr (by simp [Value.ownBlock]))
      go_wp2_with fail
      refine (wbytes_any w2.heap.size w.heap.size v3 _ w3 hb3 ho3).mono ?_
      rintro e w4 ⟨rfl, rfl⟩
      go_wp2_with fail
      refine ⟨⟨k + 1, by omega, by go_num, ?_, v2, hb3', ?_, hbl3⟩, by simp [intOf]; omega⟩
      · rw [HS.out, mk_append]
      · rw [HS.out]; exact ho3'
    · obtain rfl : k = ns.length := by have := hr.1; omega
      rw [List.take_of_length_le (Nat.le_refl _)] at ho ⊢
      go_wp2_with fail
      refine (wbytes_any w1.heap.size w.heap.size v _ wr hb ho).mono ?_
      rintro e w4 ⟨rfl, rfl⟩
      by_cases hc0 : cut < 0
      · go_wp2
        go_ret
        exact ⟨rfl, hbl⟩
      by_cases hc1 : ((encs ns).length : Int) < cut
      · go_wp2
        go_ret
        exact ⟨rfl, hbl⟩
      obtain ⟨c, rfl⟩ := Int.eq_ofNat_of_zero_le (show 0 ≤ cut by omega)
      have hc2 : c ≤ (encs ns).length := by omega
      clear hc0 hc1
      go_wp2_with fail
      rw [extract_take]
      refine (open_any _ _).mono ?_
      rintro e w5 ⟨rfl, hr5, hg5⟩
      have hbl5 : Below w.heap.size w w5 := hbl.grown hg5 hbl.size (by simp)
      have hbr : w.heap.size ≤ wr.heap.size := hbl.size
      go_wp2_with fail
      clear hb ho hg5 hbl
      generalize wr.heap.size = br at *
      go_loopw [60] (fun i wq => ∃ (k : Nat) (l : List UInt8) (f : Bool), k ≤ n ∧ i = .int .i64 k ∧ Rd wq br l f ∧ CutInv ns c k l f ∧ Below w.heap.size w wq) (fun i _ => n - (intOf i).toNat)
      case atStart => exact ⟨0, _, _, by omega, rfl, hr5, CutInv.start ns c, hbl5⟩
      case round =>
        obtain ⟨k, l, f, hk, rfl, hrd, hinv, hblq⟩ := hrel
        have hll : l.length ≤ maxLen := by have := hinv.len; unfold maxLen; omega
        by_cases hlt : k < n
        · obtain ⟨c, off, rfl, hc, hx⟩ := nums_at hr hblq hlt
          have hkl : k < ns.length := by rw [hr.1]; exact hlt
          have hxI := getD_I64 HI.out hkl
          have hst := hinv.step hkl hxI
          obtain ⟨x, hxe⟩ : ∃ x, ns.getD k 0 = x := ⟨_, rfl⟩
          rw [hxe] at hx hxI hst
          clear hxe
          rcases hst with ⟨m, hg, hinv2⟩ | ⟨hg, hinv2⟩
          · have HG := Lib.hid hg
            clear hg
            go_wp2_with fail
            refine (rint_some br l f _ hrd hll _ m HG).mono ?_
            rintro e w6 ⟨rfl, hrd6, hg6⟩
            rw [unzig_zigzag]
            have hbl6 := hblq.grown hg6 hblq.size (by intro q hq; simp at hq; omega)
            go_wp2_with fail
            exact ⟨⟨k + 1, _, _, by omega, by go_num, hrd6, hinv2, hbl6⟩, by simp [intOf]; omega⟩
          · have HG := Lib.hid hg
            clear hg
            go_wp2_with fail
            refine (rint_none br l f _ hrd hll HG).mono ?_
            rintro e w6 ⟨rfl, hrd6, hg6⟩
            have hbl6 := hblq.grown hg6 hblq.size (by intro q hq; simp at hq; omega)
            by_cases hx0 : x = 0
            · subst hx0
              go_wp2_with fail
              exact ⟨⟨k + 1, _, _, by omega, by go_num, hrd6, hinv2, hbl6⟩, by simp [intOf]; omega⟩
            · have hx0' : ((0 : Int) != x) = true := by simp; omega
              go_wp2_with fail
              refine (end_any br _ _ _ hrd6).mono ?_
              rintro e w7 ⟨rfl, rfl⟩
              have he : endOf [] true = 4 := by simp [endOf]
              rw [he]
              go_wp2_with fail
              exact ⟨⟨k + 1, _, _, by omega, by go_num, hrd6, hinv2, hbl6⟩, by simp [intOf]; omega⟩
        · obtain rfl : k = ns.length := by have := hr.1; omega
          have hlast := hinv.last hc2
          go_wp2_with fail
          refine (end_any br _ _ _ hrd).mono ?_
          rintro e w7 ⟨rfl, rfl⟩
          rcases hlast with ⟨h1, h2⟩ | ⟨h1, h2⟩
          · rw [h1]
            have h3 : ((c : Int) == ((encs ns).length : Int)) = true := by simp; omega
            go_wp2
            go_ret
            exact ⟨rfl, hblq⟩
          · rw [h1]
            have h3 : ((c : Int) == ((encs ns).length : Int)) = false := by simp; omega
            go_wp2
            go_ret
            exact ⟨rfl, hblq⟩

set_option maxHeartbeats 400000 in
theorem packCuts_long (A : Option Addr) (n cap : Nat) (cut : Int) (w : World) (hn : ¬ n ≤ 40) :
    Calls Try.prog 7 #[.slice A n cap, .int .i64 cut] w fun e w' => e = .returned (.bool true) ∧ Below w.heap.size w w' := by
  have hn40 : decide ((40 : Int) < n) = true := by simp; omega
  go_enter Try.func7, Try.ntmps7
  go_wp2_with fail
  refine (alive_any _).mono ?_
  rintro e w1 ⟨rfl, hbel⟩
  go_wp2_with fail
  go_ret
  exact ⟨rfl, hbel⟩

theorem packCuts_main (A : Option Addr) (n cap : Nat) (ns : List Int) (cut : Int) (w : World) (hr : Nums w A n ns) (hI : ∀ m ∈ ns, I64 m) (_ : n ≤ maxLen) (hc : I64 cut) :
    Calls Try.prog 7 #[.slice A n cap, .int .i64 cut] w fun e w' => e = .returned (.bool true) ∧ Below w.heap.size w w' := by
  by_cases hn : n ≤ 40
  · exact packCuts_walk A n cap ns cut w hr hI hc hn
  · exact packCuts_long A n cap cut w hn
end Go.Proofs.Ytlheijpfmihhaaa
