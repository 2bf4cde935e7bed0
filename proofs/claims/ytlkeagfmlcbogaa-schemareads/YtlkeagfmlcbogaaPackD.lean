/- The walks of package pack's Writer. -/
import Derived.Test.YtlkeagfmlcbogaaPackC
namespace Go.Proofs.Ytlkeagfmlcbogaa
open Go.RowKit

theorem encs_snoc (ns : List Int) (k : Nat) (h : k < ns.length) : encs (ns.take (k + 1)) = encs (ns.take k) ++ enc (ns.getD k 0) := by
  unfold encs
  rw [List.take_succ_eq_append_getElem h, List.map_append, List.flatten_append]
  simp [List.getElem?_eq_getElem h]

theorem enc_len {n : Int} (h : I64 n) : (enc n).length ≤ 10 := uvarint_len (Lib.zigzag_lt h.1 h.2)
theorem encs_len : ∀ (ns : List Int), (∀ m ∈ ns, I64 m) → (encs ns).length ≤ 10 * ns.length
  | [], _ => by simp [encs]
  | n :: r, h => by
    have h1 := encs_len r (fun m hm => h m (by simp [hm]))
    have h2 := enc_len (h n (by simp))
    unfold encs at h1 ⊢
    simp only [List.map_cons, List.flatten_cons, List.length_append, List.length_cons]
    omega

set_option maxRecDepth 100000 in
set_option maxHeartbeats 400000 in
theorem wint_any (b base : Nat) (v : Value) (xs : List UInt8) (A : Option Addr) (n cap : Nat) (ns : List Int) (w : World)
    (hb : At w b 52 #[v]) (ho : Owns w base 5 v xs) (hbase : base ≤ w.heap.size) (hr : Nums w A n ns)
    (hne : 0 < n → ∀ c o, A = some ⟨c, o, none⟩ → c ≠ b ∧ v.ownBlock ≠ some c) (hI : ∀ m ∈ ns, I64 m) (hl : xs.length + 10 * n ≤ 1000000000) :
    Calls Try.prog 16 #[.pointer (some ⟨b, 0, none⟩), .slice A n cap] w fun e w' => e = .returned (.tuple #[]) ∧
      ∃ v', At w' b 52 #[v'] ∧ Owns w' base 5 v' (xs ++ encs ns) ∧ Wgrew w b v w' v' := by
  go_enter Try.func16, Try.ntmps16
  go_wp2
  go_loopw [10] (fun i wr => ∃ (k : Nat) (vr : Value), k ≤ n ∧ i = .int .i64 k ∧ At wr b 52 #[vr] ∧ Owns wr base 5 vr (xs ++ encs (ns.take k)) ∧ Wgrew w b v wr vr) (fun i _ => n - (intOf i).toNat)
  case atStart => exact ⟨0, v, by omega, rfl, hb, by simpa [encs] using ho, Wgrew.refl _ _ _⟩
  case round =>
    obtain ⟨k, vr, hk, rfl, hbr, hor, hgr⟩ := hrel
    by_cases hlt : k < n
    · obtain ⟨c, off, rfl, hc, hcell⟩ := hr.2 (by omega)
      obtain ⟨hne1, hne2⟩ := hne (by omega) c off rfl
      obtain ⟨x, hxe⟩ : ∃ x, ns.getD k 0 = x := ⟨_, rfl⟩
      have hsn := encs_snoc ns k (by rw [hr.1]; exact hlt)
      have hcx := hcell k hlt
      rw [hxe] at hsn hcx
      have hx : wr.cell? ⟨c, off + k, none⟩ = some (.int .i64 x) := (hgr.cell (p := ⟨c, off + k, none⟩) hc hne1 hne2).trans hcx
      have hxI : I64 x := by
        have hkl : k < ns.length := by rw [hr.1]; exact hlt
        apply hI x
        rw [← hxe]
        simp [List.getElem?_eq_getElem hkl]
      have hcb : wr.cell? ⟨b, 0, none⟩ = some vr := At.cell hbr 0
      have hlen : (encs (ns.take k)).length ≤ 10 * k := by
        have := encs_len (ns.take k) (fun m hm => hI m (List.mem_of_mem_take hm))
        have h2 : (ns.take k).length ≤ k := List.length_take_le _ _
        omega
      have HSN := Lib.hid hsn
      have hvne := owns_apart hor hbr (by decide)
      clear hsn hcx hxe hcell
      go_wp2_with fail
      refine (appendNumber_any x hxI base vr _ wr hor (Nat.le_trans hbase hgr.size) (by simp; omega)).mono ?_
      rintro e w1 ⟨g, m, cap1, rfl, ho1, hg1⟩
      have hb1 : At w1 b 52 #[vr] := hbr.grown hg1.grown (fun e => hvne e.symm)
      have hc1 : w1.cell? ⟨b, 0, none⟩ = some vr := At.cell hb1 0
      have hf1 := At.unfrozen hb1 0
      go_wp2
      have hvne1 := owns_apart ho1 hb1 (by decide)
      refine ⟨⟨k + 1, _, by omega, by go_num, At.put hb1 0 _, ?_, hgr.trans (Wgrew.step hg1 b)⟩, by simp [intOf]; omega⟩
      rw [HSN.out, ← List.append_assoc]
      exact ho1.far hvne1 _
    · go_wp2
      go_end0
      refine ⟨rfl, vr, hbr, ?_, hgr⟩
      rw [List.take_of_length_le (by rw [hr.1]; omega)] at hor
      exact hor

theorem wbytes_any (b base : Nat) (v : Value) (xs : List UInt8) (w : World) (hb : At w b 52 #[v]) (ho : Owns w base 5 v xs) :
    Calls Try.prog 21 #[.pointer (some ⟨b, 0, none⟩)] w fun e w' => e = .returned (.string ⟨xs.toArray⟩) ∧ w = w' := by
  have hcb : w.cell? ⟨b, 0, none⟩ = some v := At.cell hb 0
  have hcv := run_bytes_owned (P := Try.prog) 50 9 5 Try.underlying50 Try.underlying5 Try.underlying9 ho
  go_enter Try.func21, Try.ntmps21
  go_wp2
  go_ret
  exact ⟨rfl, rfl⟩
end Go.Proofs.Ytlkeagfmlcbogaa
