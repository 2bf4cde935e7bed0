/- The walks of package pack's Writer.Str and Writer.Bool. -/
import Derived.Test.YtlkeagfmlcbogaaQPKa
import Derived.Test.YtlkeagfmlcbogaaQMemStr
import Derived.Test.YtlkeagfmlcbogaaQOpen
namespace Go.Proofs.Ytlkeagfmlcbogaa
open Go.RowKit

theorem flat_snoc {α : Type} (f : α → List UInt8) (l : List α) (d : α) (k : Nat) (h : k < l.length) : ((l.take (k + 1)).map f).flatten = ((l.take k).map f).flatten ++ f (l.getD k d) := by
  rw [List.take_succ_eq_append_getElem h, List.map_append, List.flatten_append]
  simp [List.getElem?_eq_getElem h]
theorem flat_split {α : Type} (f : α → List UInt8) (l : List α) (k : Nat) : (l.map f).flatten.length = ((l.take k).map f).flatten.length + ((l.drop k).map f).flatten.length := by
  rw [← List.length_append, ← List.flatten_append, ← List.map_append, List.take_append_drop]

set_option maxRecDepth 100000 in
set_option maxHeartbeats 400000 in
theorem wstr_any (b base : Nat) (v : Value) (xs : List UInt8) (A : Option Addr) (n cap : Nat) (ss : List (List UInt8)) (w : World)
    (hb : At w b 52 #[v]) (ho : Owns w base 5 v xs) (hbase : base ≤ w.heap.size) (hr : Strs w A n ss)
    (hne : 0 < n → ∀ c o, A = some ⟨c, o, none⟩ → c ≠ b ∧ v.ownBlock ≠ some c) (hl : xs.length + (encSs ss).length ≤ 1000000000) (hn : n ≤ 1000000000) :
    Calls Try.prog 45 #[.pointer (some ⟨b, 0, none⟩), .slice A n cap] w fun e w' => e = .returned (.tuple #[]) ∧
      ∃ v', At w' b 52 #[v'] ∧ Owns w' base 5 v' (xs ++ encSs ss) ∧ Wgrew w b v w' v' := by
  obtain ⟨i0, hi0, hz0, hz1, hz2⟩ := info_parts info_u8
  go_enter Try.func45, Try.ntmps45
  go_wp2
  go_loopw [10] (fun i wr => ∃ (k : Nat) (vr : Value), k ≤ n ∧ i = .int .i64 k ∧ At wr b 52 #[vr] ∧ Owns wr base 5 vr (xs ++ encSs (ss.take k)) ∧ Wgrew w b v wr vr) (fun i _ => n - (intOf i).toNat)
  case atStart => exact ⟨0, v, by omega, rfl, hb, by simpa [encSs] using ho, Wgrew.refl _ _ _⟩
  case round =>
    obtain ⟨k, vr, hk, rfl, hbr, hor, hgr⟩ := hrel
    by_cases hlt : k < n
    · obtain ⟨c, off, rfl, hc, hcell⟩ := hr.2 (by omega)
      obtain ⟨hne1, hne2⟩ := hne (by omega) c off rfl
      have hkl : k < ss.length := by rw [hr.1]; exact hlt
      have hsn : encSs (ss.take (k + 1)) = encSs (ss.take k) ++ encS (ss.getD k []) := flat_snoc encS ss [] k hkl
      have hcx := hcell k hlt
      obtain ⟨x, hxe⟩ : ∃ x, ss.getD k [] = x := ⟨_, rfl⟩
      rw [hxe] at hsn hcx
      have hx : wr.cell? ⟨c, off + k, none⟩ = some (.string ⟨x.toArray⟩) := (hgr.cell (p := ⟨c, off + k, none⟩) hc hne1 hne2).trans hcx
      have hcb : wr.cell? ⟨b, 0, none⟩ = some vr := At.cell hbr 0
      have hsp : (encSs ss).length = (encSs (ss.take (k + 1))).length + (encSs (ss.drop (k + 1))).length := flat_split encS ss (k + 1)
      have hsl : (encSs (ss.take (k + 1))).length = (encSs (ss.take k)).length + ((enc x.length).length + x.length) := by rw [hsn, List.length_append]; simp [encS]
      have hlen : xs.length + (encSs (ss.take k)).length + (enc x.length).length + x.length ≤ 1000000000 := by omega
      have hxI : I64 (x.length : Int) := by unfold I64; omega
      have HSN := Lib.hid hsn
      have hvne := owns_apart hor hbr (by decide)
      clear hsn hcx hxe hcell hsp hsl
      go_wp2_with fail
      refine (appendNumber_any x.length hxI base vr _ wr hor (Nat.le_trans hbase hgr.size) (by simp; omega)).mono ?_
      rintro e w1 ⟨g, m, cap1, rfl, ho1, hg1⟩
      have hb1 : At w1 b 52 #[vr] := hbr.grown hg1.grown (fun e => hvne e.symm)
      have hc1 : w1.cell? ⟨b, 0, none⟩ = some vr := At.cell hb1 0
      have hf1 := At.unfrozen hb1 0
      have hvne1 := owns_apart ho1 hb1 (by decide)
      have hb2 : At (w1.setCell ⟨b, 0, none⟩ (.slice (some ⟨g, 0, none⟩) m cap1)) b 52 #[.slice (some ⟨g, 0, none⟩) m cap1] := At.put hb1 0 (.slice (some ⟨g, 0, none⟩) m cap1)
      have ho2 := ho1.far (p := ⟨b, 0, none⟩) hvne1 (.slice (some ⟨g, 0, none⟩) m cap1)
      have hgr2 := hgr.trans (Wgrew.step hg1 b)
      go_wp2_with (at_builtin; refine wpList_append_str rfl (.tmp 28) (.tmp 29) 50 9 rfl base 5 i0 Try.underlying50 Try.underlying9 hi0 hz0 hz1 hz2 g m cap1 _ x rfl ho2 rfl ?c1 ?c2 ?_)
      case c1 => simp; omega
      case c2 => have := hgr2.size; omega
      intro g3 m3 cap3 w3 ho3 hg3
      have hb3 : At w3 b 52 #[.slice (some ⟨g, 0, none⟩) m cap1] := hb2.grown hg3.grown (fun e => hvne1 e.symm)
      have hc3 : w3.cell? ⟨b, 0, none⟩ = some (.slice (some ⟨g, 0, none⟩) m cap1) := At.cell hb3 0
      have hf3 := At.unfrozen hb3 0
      have hvne3 := owns_apart ho3 hb3 (by decide)
      go_wp2
      refine ⟨⟨k + 1, _, by omega, by go_num, At.put hb3 0 _, ?_, hgr2.trans (Wgrew.step hg3 b)⟩, by simp [intOf]; omega⟩
      rw [HSN.out]
      exact ho3.far hvne3 _
    · go_wp2
      go_end0
      refine ⟨rfl, vr, hbr, ?_, hgr⟩
      rw [List.take_of_length_le (by rw [hr.1]; omega)] at hor
      exact hor

set_option maxRecDepth 100000 in
set_option maxHeartbeats 400000 in
theorem wbool_any (b base : Nat) (v : Value) (xs : List UInt8) (A : Option Addr) (n cap : Nat) (bs : List Bool) (w : World)
    (hb : At w b 52 #[v]) (ho : Owns w base 5 v xs) (hbase : base ≤ w.heap.size) (hr : Bools w A n bs)
    (hne : 0 < n → ∀ c o, A = some ⟨c, o, none⟩ → c ≠ b ∧ v.ownBlock ≠ some c) (hl : xs.length + 10 * n ≤ 100000000) :
    Calls Try.prog 66 #[.pointer (some ⟨b, 0, none⟩), .slice A n cap] w fun e w' => e = .returned (.tuple #[]) ∧
      ∃ v', At w' b 52 #[v'] ∧ Owns w' base 5 v' (xs ++ encBs bs) ∧ Wgrew w b v w' v' := by
  go_enter Try.func66, Try.ntmps66
  go_wp2
  go_loopw [8] (fun i wr => ∃ (k : Nat) (vr : Value), k ≤ n ∧ i = .int .i64 k ∧ At wr b 52 #[vr] ∧ Owns wr base 5 vr (xs ++ encBs (bs.take k)) ∧ (encBs (bs.take k)).length ≤ 10 * k ∧ Wgrew w b v wr vr) (fun i _ => n - (intOf i).toNat)
  case atStart => exact ⟨0, v, by omega, rfl, hb, by simpa [encBs] using ho, by simp [encBs], Wgrew.refl _ _ _⟩
  case round =>
    obtain ⟨k, vr, hk, rfl, hbr, hor, hle, hgr⟩ := hrel
    by_cases hlt : k < n
    · obtain ⟨c, off, rfl, hc, hcell⟩ := hr.2 (by omega)
      obtain ⟨hne1, hne2⟩ := hne (by omega) c off rfl
      have hkl : k < bs.length := by rw [hr.1]; exact hlt
      have hsn : encBs (bs.take (k + 1)) = encBs (bs.take k) ++ encB (bs.getD k false) := flat_snoc encB bs false k hkl
      have hcx := hcell k hlt
      obtain ⟨x, hxe⟩ : ∃ x, bs.getD k false = x := ⟨_, rfl⟩
      rw [hxe] at hsn hcx
      have hx : wr.cell? ⟨c, off + k, none⟩ = some (.bool x) := (hgr.cell (p := ⟨c, off + k, none⟩) hc hne1 hne2).trans hcx
      have HSN := Lib.hid hsn
      clear hsn hcx hxe hcell
      have h1 : I64 1 := by unfold I64; omega
      have h0 : I64 0 := by unfold I64; omega
      cases x with
      | true =>
        go_wp2_with fail
        refine (wint_one b base vr _ 1 wr hbr hor (Nat.le_trans hbase hgr.size) h1 (by simp; omega)).mono ?_
        rintro e w1 ⟨rfl, v1, hb1, ho1, hg1⟩
        go_wp2
        have hln := enc_len h1
        refine ⟨⟨k + 1, v1, by omega, by go_num, hb1, ?_, ?_, hgr.trans hg1⟩, by simp [intOf]; omega⟩
        · rw [HSN.out, ← List.append_assoc]; exact ho1
        · rw [HSN.out, List.length_append]; simp only [encB, if_true]; omega
      | false =>
        go_wp2_with fail
        refine (wint_one b base vr _ 0 wr hbr hor (Nat.le_trans hbase hgr.size) h0 (by simp; omega)).mono ?_
        rintro e w1 ⟨rfl, v1, hb1, ho1, hg1⟩
        go_wp2
        have hln := enc_len h0
        refine ⟨⟨k + 1, v1, by omega, by go_num, hb1, ?_, ?_, hgr.trans hg1⟩, by simp [intOf]; omega⟩
        · rw [HSN.out, ← List.append_assoc]; exact ho1
        · rw [HSN.out, List.length_append]; simp only [encB, Bool.false_eq_true, if_false]; omega
    · go_wp2
      go_end0
      refine ⟨rfl, vr, hbr, ?_, hgr⟩
      rw [List.take_of_length_le (by rw [hr.1]; omega)] at hor
      exact hor
end Go.Proofs.Ytlkeagfmlcbogaa
