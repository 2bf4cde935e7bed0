/- The reference's bytes of schemas. -/
import Derived.Test.YtnhalfdddcjicaaGreatQJap
namespace Go.Proofs.YtnhalfdddcjicaaGreat
open Go.RowKit

theorem flatL_step {α : Type} [Inhabited α] (f : α → List UInt8) {l : List α} {k : Nat} (h : k < l.length) : ((l.take (k + 1)).map f).flatten = ((l.take k).map f).flatten ++ f (l.getD k default) := by
  rw [List.take_succ_eq_append_getElem h, List.getD_eq_getElem?_getD, List.getElem?_eq_getElem h]
  simp only [List.map_append, List.flatten_append, List.map_cons, List.map_nil, List.flatten_cons, List.flatten_nil, List.append_nil, Option.getD_some]
theorem flatL_le {α : Type} (f : α → List UInt8) (l : List α) (k : Nat) : ((l.take k).map f).flatten.length ≤ (l.map f).flatten.length := by
  conv => rhs; rw [← List.take_append_drop k l]
  rw [List.map_append, List.flatten_append, List.length_append]
  omega
theorem getD_in {α : Type} [Inhabited α] {l : List α} {k : Nat} (h : k < l.length) : l.getD k default ∈ l := by simp [List.getElem?_eq_getElem h]
/-- Below, of a bound that lies below the first world's size. -/
theorem below_zz {Z : Nat} {w w1 w2 : World} (h : Below Z w w1) (k : Below w1.heap.size w1 w2) (hz : Z ≤ w.heap.size := by omega) : Below Z w w2 := h.trans (k.mono (by have := h.size; omega))
theorem held4s {w w' : World} {A : Nat} {t : TypeId} {a b c d : Value} (h : At w A t #[a, b, c, d]) (hb : Below w.heap.size w w') :
    At w' A t #[a, b, c, d] ∧ (w'.cell? ⟨A, 0, none⟩ = some a ∧ w'.cell? ⟨A, 1, none⟩ = some b ∧ w'.cell? ⟨A, 2, none⟩ = some c ∧ w'.cell? ⟨A, 3, none⟩ = some d) := by
  have hA := h.below hb h.lt
  exact ⟨hA, At.cell hA 0, At.cell hA 1, At.cell hA 2, At.cell hA 3⟩
theorem heldG {w w' : World} {A : Nat} {t : TypeId} {a b c : Value} (h : At w A t #[a, b, c]) (hb : Below w.heap.size w w') :
    At w' A t #[a, b, c] ∧ (w'.cell? ⟨A, 0, none⟩ = some a ∧ w'.cell? ⟨A, 1, none⟩ = some b ∧ w'.cell? ⟨A, 2, none⟩ = some c) := by
  have hA := h.below hb h.lt
  exact ⟨hA, At.cell hA 0, At.cell hA 1, At.cell hA 2⟩
theorem heldC {w w' : World} {A : Nat} {t : TypeId} {a b c d e f : Value} (h : At w A t #[a, b, c, d, e, f]) (hb : Below w.heap.size w w') :
    At w' A t #[a, b, c, d, e, f] ∧ (w'.cell? ⟨A, 0, none⟩ = some a ∧ w'.cell? ⟨A, 1, none⟩ = some b ∧ w'.cell? ⟨A, 2, none⟩ = some c ∧ w'.cell? ⟨A, 3, none⟩ = some d ∧ w'.cell? ⟨A, 4, none⟩ = some e ∧ w'.cell? ⟨A, 5, none⟩ = some f) := by
  have hA := h.below hb h.lt
  exact ⟨hA, At.cell hA 0, At.cell hA 1, At.cell hA 2, At.cell hA 3, At.cell hA 4, At.cell hA 5⟩
def flT (tab : Nat → Tb) (k : Nat) : List UInt8 := (((List.range k).map fun j => treeT (tab j)).map encT).flatten
def flE (chk : Nat → Ex) (k : Nat) : List UInt8 := (((List.range k).map fun j => treeE (chk j)).map encE).flatten
def flC (cols : List Co) (k : Nat) : List UInt8 := ((cols.take k).map encC).flatten
def flG (gs : List Gr) (k : Nat) : List UInt8 := ((gs.take k).map encG).flatten
theorem flT_succ (tab : Nat → Tb) (k : Nat) : flT tab (k + 1) = flT tab k ++ encT (treeT (tab k)) := flat_step encT (fun j => treeT (tab j)) k
theorem flE_succ (chk : Nat → Ex) (k : Nat) : flE chk (k + 1) = flE chk k ++ encE (treeE (chk k)) := flat_step encE (fun j => treeE (chk j)) k
theorem flT_le (tab : Nat → Tb) {k n : Nat} (h : k ≤ n) : (flT tab k).length ≤ (flT tab n).length := flat_le encT (fun j => treeT (tab j)) h
theorem flE_le (chk : Nat → Ex) {k n : Nat} (h : k ≤ n) : (flE chk k).length ≤ (flE chk n).length := flat_le encE (fun j => treeE (chk j)) h
theorem flC_succ {cols : List Co} {k : Nat} (h : k < cols.length) : flC cols (k + 1) = flC cols k ++ encC (cols.getD k default) := flatL_step encC h
theorem flG_succ {gs : List Gr} {k : Nat} (h : k < gs.length) : flG gs (k + 1) = flG gs k ++ encG (gs.getD k default) := flatL_step encG h
theorem flC_le {cols : List Co} {k n : Nat} (h : n = cols.length) : (flC cols k).length ≤ (flC cols n).length := by
  unfold flC; rw [h, List.take_length]; exact flatL_le encC cols k
theorem flG_le {gs : List Gr} {k n : Nat} (h : n = gs.length) : (flG gs k).length ≤ (flG gs n).length := by
  unfold flG; rw [h, List.take_length]; exact flatL_le encG gs k
theorem encSd_is (ver : Int) (tA : Option Addr) (tn tcap : Nat) (tab : Nat → Tb) (gA : Option Addr) (gn gcap : Nat) (gs : List Gr) (hg : gs.length = gn) : encSd (treeS ⟨ver, tA, tn, tcap, tab, gA, gn, gcap, gs⟩) =
    enc ver ++ enc (tn : Int) ++ flT tab tn ++ enc (gn : Int) ++ flG gs gn := by
  unfold encSd treeS flT flG
  rw [← hg, List.take_length]
  simp [List.append_assoc]
theorem encT_is (nm : List UInt8) (ow : Int) (cA : Option Addr) (cn ccap : Nat) (cols : List Co) (eA : Option Addr) (en ecap : Nat) (chk : Nat → Ex) (hc : cols.length = cn) : encT (treeT ⟨nm, ow, cA, cn, ccap, cols, eA, en, ecap, chk⟩) =
    encS nm ++ enc ow ++ enc (cn : Int) ++ flC cols cn ++ enc (en : Int) ++ flE chk en := by
  unfold encT treeT flC flE
  rw [← hc, List.take_length]
  simp [List.append_assoc]
theorem str2 (a b : List UInt8) : ByteArray.mk a.toArray ++ ByteArray.mk b.toArray = ByteArray.mk (a ++ b).toArray := ByteArray.mk_append_mk a b

set_option maxRecDepth 100000 in
set_option maxHeartbeats 3200000 in
theorem rbytesS_any (s : Sc) (w : World) (hs : InS w s) (hl : (encSd (treeS s)).length ≤ 100000000) :
    Calls Tryz.prog 16 #[s.val] w fun e w' => e = .returned (.string ⟨(encSd (treeS s)).toArray⟩) ∧ Below w.heap.size w w' := by
  obtain ⟨ver, tA, tn, tcap, tab, gA, gn, gcap, gs⟩ := s
  obtain ⟨i1, htm, hgm, hT, hG⟩ := hs
  simp only at i1 htm hgm hT hG
  have hgl := hG.1
  rw [encSd_is ver tA tn tcap tab gA gn gcap gs hgl] at hl ⊢
  unfold maxLen at htm hgm
  have I1 := Lib.hid i1
  have I2 : Hid (I64 (tn : Int)) := by show I64 _; unfold I64; omega
  have I3 : Hid (I64 (gn : Int)) := by show I64 _; unfold I64; omega
  have HL := Lib.hid hl
  have e1 := enc_len i1
  have e2 := enc_len I2.out
  have e3 := enc_len I3.out
  simp only [List.length_append] at hl
  have q1 : (enc ver).length + (enc (tn : Int)).length ≤ 9223372036854775807 := by omega
  have q2 : ¬ 9223372036854775807 < (enc ver).length + (enc (tn : Int)).length := by omega
  simp only [Sc.val]
  have hA := At.fresh w 25 #[.int .i64 ver, .slice tA tn tcap, .slice gA gn gcap]
  have hb := below_box w (.cells #[.int .i64 ver, .slice tA tn tcap, .slice gA gn gcap] 25)
  have hD : Below (w.alloc (.cells #[.int .i64 ver, .slice tA tn tcap, .slice gA gn gcap] 25)).heap.size (w.alloc (.cells #[.int .i64 ver, .slice tA tn tcap, .slice gA gn gcap] 25)) (w.alloc (.cells #[.int .i64 ver, .slice tA tn tcap, .slice gA gn gcap] 25)).drew := (Below.refl _ _).drew
  obtain ⟨hAD, S0⟩ := heldG hA hD
  have hbD := below_in hb hD
  clear hA hD hb i1
  go_enter Tryz.func16, Tryz.ntmps16
  go_wp2_with fail
  generalize (w.alloc (.cells #[.int .i64 ver, .slice tA tn tcap, .slice gA gn gcap] 25)) = wb at *
  go_region_held3 (fun w' => w'.cell? ⟨w.heap.size, 0, none⟩ = some (.int .i64 ver) ∧ w'.cell? ⟨w.heap.size, 1, none⟩ = some (.slice tA tn tcap) ∧ w'.cell? ⟨w.heap.size, 2, none⟩ = some (.slice gA gn gcap))
      (first | exact S0 | exact S1 | exact S2)
      (first
        | (go_at_call_of 31 ver; refine (refInt_any ver I1.out wb.drew).mono ?_; rintro e w3 ⟨rfl, b3⟩; obtain ⟨hA3, S1⟩ := heldG hAD b3; have hb3 := below_in hbD b3)
        | (go_at_call_of 31 (tn : Int); refine (refInt_any tn I2.out w3).mono ?_; rintro e w4 ⟨rfl, b4⟩; obtain ⟨hA4, S2⟩ := heldG hA3 b4; have hb4 := below_in hb3 b4))
  all_goals
    obtain ⟨c0, c1, c2⟩ := S2
    go_wp2_with fail
    generalize hH0 : enc ver ++ enc (tn : Int) = H at *
    have hS0 : Value.string ({ data := (enc ver).toArray } ++ { data := (enc (tn : Int)).toArray }) = .string ⟨H.toArray⟩ := by
      rw [← hH0, str2]
    have HH := Lib.hid hH0
    have hHl : H.length ≤ (enc ver).length + (enc (tn : Int)).length := by rw [← hH0, List.length_append]; omega
    clear S0 S1 hAD hA3 hbD hb3 b3 b4 c0 c1 q1 q2 hH0 I1
    go_loopw [3, 23] (fun s i wr => ∃ (k : Nat) (y : List UInt8), k ≤ tn ∧ i = .int .i64 k ∧ s = .string ⟨y.toArray⟩ ∧ Hid (y = H ++ flT tab k) ∧ At wr w.heap.size 25 #[.int .i64 ver, .slice tA tn tcap, .slice gA gn gcap] ∧ Below w.heap.size w wr) (fun _ i _ => tn - (intOf i).toNat)
    case atStart => exact ⟨0, H, by omega, rfl, hS0, show _ = _ by simp [flT], hA4, hb4⟩
    case round =>
      obtain ⟨k, y, hk, rfl, rfl, HY, hAs, hbr⟩ := hrel
      clear hS0 hA4 hb4
      have hyl : y.length ≤ H.length + (flT tab k).length := by rw [HY.out, List.length_append]; omega
      have hTle := flT_le tab (k := k) (n := tn) hk
      by_cases hlt : k < tn
      · obtain ⟨b, off, rfl, hbl, hcell⟩ := hT (by omega)
        obtain ⟨t0, t1, t2, t3⟩ := (hcell k hlt).1.keep fun i => hbr.cell (p := ⟨b, i, none⟩) hbl
        have hin := (hcell k hlt).2.below hbr
        have hTs := flT_succ tab k
        have hTle2 := flT_le tab (k := k + 1) (n := tn) hlt
        rw [hTs, List.length_append] at hTle2
        have HK : Hid (y ++ encT (treeT (tab k)) = H ++ flT tab (k + 1)) := by show _ = _; rw [hTs, HY.out, List.append_assoc]
        clear hcell hTs
        generalize tab k = t at *
        obtain ⟨nm, ow, cA, cn, ccap, cols, eA, en, ecap, chk⟩ := t
        obtain ⟨iow, -, hcm, hem, hC, hE⟩ := hin
        simp only at t0 t1 t2 t3 iow hcm hem hC hE
        have hcl := hC.1
        have hTi := encT_is nm ow cA cn ccap cols eA en ecap chk hcl
        rw [hTi] at HK hTle2
        simp only [List.length_append] at hTle2
        clear hTi
        unfold maxLen at hcm hem
        have IO := Lib.hid iow
        have IC : Hid (I64 (cn : Int)) := by show I64 _; unfold I64; omega
        have IE : Hid (I64 (en : Int)) := by show I64 _; unfold I64; omega
        have hnm := encS_ge nm
        have q1 : y.length + (encS nm).length ≤ 9223372036854775807 := by omega
        have q2 : y.length + (encS nm).length + (enc ow).length ≤ 9223372036854775807 := by omega
        have q3 : y.length + (encS nm).length + (enc ow).length + (enc (cn : Int)).length ≤ 9223372036854775807 := by omega
        have q4 : ¬ 9223372036854775807 < y.length + (encS nm).length := by omega
        have q5 : ¬ 9223372036854775807 < y.length + (encS nm).length + (enc ow).length := by omega
        have q6 : ¬ 9223372036854775807 < y.length + (encS nm).length + (enc ow).length + (enc (cn : Int)).length := by omega
        have hA0 := At.fresh wr 32 #[.string ⟨nm.toArray⟩, .int .i64 ow, .slice cA cn ccap, .slice eA en ecap]
        have hb0 := below_box wr (.cells #[.string ⟨nm.toArray⟩, .int .i64 ow, .slice cA cn ccap, .slice eA en ecap] 32)
        have hcD : Below (wr.alloc (.cells #[.string ⟨nm.toArray⟩, .int .i64 ow, .slice cA cn ccap, .slice eA en ecap] 32)).heap.size (wr.alloc (.cells #[.string ⟨nm.toArray⟩, .int .i64 ow, .slice cA cn ccap, .slice eA en ecap] 32)) (wr.alloc (.cells #[.string ⟨nm.toArray⟩, .int .i64 ow, .slice cA cn ccap, .slice eA en ecap] 32)).drew := (Below.refl _ _).drew
        obtain ⟨hAD, S0⟩ := held4s hA0 hcD
        have hAs0 := hAs.below hb0 hAs.lt
        have hbr0 := below_in hbr hb0
        have hwrs := hbr.size
        have hb0r := Lib.hid hb0
        clear hA0 iow hb0 hAs hbr
        go_wp2_with fail
        generalize (wr.alloc (.cells #[.string ⟨nm.toArray⟩, .int .i64 ow, .slice cA cn ccap, .slice eA en ecap] 32)) = wb at *
        go_region_held3 (fun w' => w'.cell? ⟨wr.heap.size, 0, none⟩ = some (.string ⟨nm.toArray⟩) ∧ w'.cell? ⟨wr.heap.size, 1, none⟩ = some (.int .i64 ow) ∧ w'.cell? ⟨wr.heap.size, 2, none⟩ = some (.slice cA cn ccap) ∧ w'.cell? ⟨wr.heap.size, 3, none⟩ = some (.slice eA en ecap))
          (first | exact S0 | exact S1 | exact S2 | exact S3)
          (first
            | (go_at_call_of 32 (Value.string ⟨nm.toArray⟩); refine (refStr_any nm (by omega) wb.drew).mono ?_; rintro e w3 ⟨rfl, b3⟩; obtain ⟨hA3, S1⟩ := held4s hAD b3; have hc3 := below_in hcD b3)
            | (go_at_call_of 31 (ow); refine (refInt_any ow IO.out w3).mono ?_; rintro e w4 ⟨rfl, b4⟩; obtain ⟨hA4, S2⟩ := held4s hA3 b4; have hc4 := below_in hc3 b4)
            | (go_at_call_of 31 ((cn : Int)); refine (refInt_any cn IC.out w4).mono ?_; rintro e w5 ⟨rfl, b5⟩; obtain ⟨hA5, S3⟩ := held4s hA4 b5; have hc5 := below_in hc4 b5))
        all_goals
          -- REST
          go_wp2_with fail
          generalize hY1 : y ++ encS nm ++ enc ow ++ enc (cn : Int) = Y1 at *
          have hS1 : Value.string ({ data := y.toArray } ++ { data := (encS nm).toArray } ++ { data := (enc ow).toArray } ++ { data := (enc (cn : Int)).toArray }) = .string ⟨Y1.toArray⟩ := by
            rw [← hY1, str2, str2, str2]
          have hY1l : Y1.length ≤ 400000000 := by
            rw [← hY1]; simp only [List.length_append]; omega
          have HY1 := Lib.hid hY1
          have hAs5 := hAs0.below hc5 hAs0.lt
          have hbr5 := below_in hbr0 hc5
          clear S0 S1 S2 S3 hAD hA3 hA4 hc3 hc4 hcD b3 b4 b5 hAs0 hbr0 q1 q2 q3 q4 q5 q6 hY1 t0 t1 t2 t3 IO hnm
          have hbw5 : Below wr.heap.size wr w5 := below_in hb0r.out hc5
          clear hb0r
          generalize hZ : wr.heap.size = Z at *
          obtain ⟨wo, hwo⟩ : ∃ wo, wo = wr := ⟨_, rfl⟩
          rw [← hwo] at hC hE hbw5 hZ
          clear hwo
          go_loopw [3, 44] (fun s i wx => ∃ (k' : Nat) (y' : List UInt8), k' ≤ cn ∧ i = .int .i64 k' ∧ s = .string ⟨y'.toArray⟩ ∧ Hid (y' = Y1 ++ flC cols k') ∧ At wx w.heap.size 25 #[.int .i64 ver, .slice (some ⟨b, off, none⟩) tn tcap, .slice gA gn gcap] ∧ At wx Z 32 #[.string ⟨nm.toArray⟩, .int .i64 ow, .slice cA cn ccap, .slice eA en ecap] ∧ Below w.heap.size w wx ∧ Below Z wo wx) (fun _ i _ => cn - (intOf i).toNat)
          case atStart => exact ⟨0, Y1, by omega, rfl, hS1, show _ = _ by simp [flC], hAs5, hA5, hbr5, hbw5⟩
          case round =>
            obtain ⟨k', y', hk', rfl, rfl, HY', hAsx, hAtx, hbx, hbwx⟩ := hrel
            clear hS1 hAs5 hA5 hbr5 hc5
            have hyl' : y'.length ≤ Y1.length + (flC cols k').length := by rw [HY'.out, List.length_append]; omega
            have hCle := flC_le (cols := cols) (k := k') (n := cn) hcl.symm
            by_cases hlt' : k' < cn
            · obtain ⟨cb, coff, rfl, hcbl, hccell⟩ := hC.2.2 (by omega)
              have hce := (hccell k' hlt').keep fun i => hbwx.cell (p := ⟨cb, i, none⟩) (Nat.lt_of_lt_of_eq hcbl hZ)
              have hCs := flC_succ (cols := cols) (k := k') (by omega)
              have hCle2 := flC_le (cols := cols) (k := k' + 1) (n := cn) hcl.symm
              rw [hCs, List.length_append] at hCle2
              have HK' : Hid (y' ++ encC (cols.getD k' default) = Y1 ++ flC cols (k' + 1)) := by show _ = _; rw [hCs, HY'.out, List.append_assoc]
              have hok := hC.2.1 _ (getD_in (l := cols) (k := k') (by omega))
              clear hccell hCs
              generalize cols.getD k' default = c at *
              obtain ⟨nmc, kd, nn, un, ref, dl⟩ := c
              obtain ⟨ikd, idl, -, -⟩ := hok
              obtain ⟨x0, x1, x2, x3, x4, x5⟩ := hce
              simp only at x0 x1 x2 x3 x4 x5 ikd idl
              have hCi : encC ⟨nmc, kd, nn, un, ref, dl⟩ = encS nmc ++ encS ref ++ enc kd ++ enc dl ++ encB nn ++ encB un := by unfold encC; simp only [List.append_assoc]
              rw [hCi] at HK' hCle2
              simp only [List.length_append] at hCle2
              clear hCi
              have IK := Lib.hid ikd
              have ID := Lib.hid idl
              have hn1 := encS_ge nmc
              have hn2 := encS_ge ref
              have r0 : y'.length + (encS nmc).length ≤ 9223372036854775807 := by omega
              have r0' : ¬ 9223372036854775807 < y'.length + (encS nmc).length := by omega
              have r1 : y'.length + (encS nmc).length + (encS ref).length ≤ 9223372036854775807 := by omega
              have r1' : ¬ 9223372036854775807 < y'.length + (encS nmc).length + (encS ref).length := by omega
              have r2 : y'.length + (encS nmc).length + (encS ref).length + (enc kd).length ≤ 9223372036854775807 := by omega
              have r2' : ¬ 9223372036854775807 < y'.length + (encS nmc).length + (encS ref).length + (enc kd).length := by omega
              have r3 : y'.length + (encS nmc).length + (encS ref).length + (enc kd).length + (enc dl).length ≤ 9223372036854775807 := by omega
              have r3' : ¬ 9223372036854775807 < y'.length + (encS nmc).length + (encS ref).length + (enc kd).length + (enc dl).length := by omega
              have r4 : y'.length + (encS nmc).length + (encS ref).length + (enc kd).length + (enc dl).length + (encB nn).length ≤ 9223372036854775807 := by omega
              have r4' : ¬ 9223372036854775807 < y'.length + (encS nmc).length + (encS ref).length + (enc kd).length + (enc dl).length + (encB nn).length := by omega
              have r5 : y'.length + (encS nmc).length + (encS ref).length + (enc kd).length + (enc dl).length + (encB nn).length + (encB un).length ≤ 9223372036854775807 := by omega
              have r5' : ¬ 9223372036854775807 < y'.length + (encS nmc).length + (encS ref).length + (enc kd).length + (enc dl).length + (encB nn).length + (encB un).length := by omega
              have hA0 := At.fresh wr 54 #[.string ⟨nmc.toArray⟩, .int .i64 kd, .bool nn, .bool un, .string ⟨ref.toArray⟩, .int .i64 dl]
              have hb0 := below_box wr (.cells #[.string ⟨nmc.toArray⟩, .int .i64 kd, .bool nn, .bool un, .string ⟨ref.toArray⟩, .int .i64 dl] 54)
              have hcD : Below (wr.alloc (.cells #[.string ⟨nmc.toArray⟩, .int .i64 kd, .bool nn, .bool un, .string ⟨ref.toArray⟩, .int .i64 dl] 54)).heap.size (wr.alloc (.cells #[.string ⟨nmc.toArray⟩, .int .i64 kd, .bool nn, .bool un, .string ⟨ref.toArray⟩, .int .i64 dl] 54)) (wr.alloc (.cells #[.string ⟨nmc.toArray⟩, .int .i64 kd, .bool nn, .bool un, .string ⟨ref.toArray⟩, .int .i64 dl] 54)).drew := (Below.refl _ _).drew
              obtain ⟨hAD, S0⟩ := heldC hA0 hcD
              have hAs0 := hAsx.below hb0 hAsx.lt
              have hAt0 := hAtx.below hb0 hAtx.lt
              have hbx0 := below_in hbx hb0
              have hbwx0 := below_zz hbwx hb0
              clear hA0 ikd idl hb0 hAsx hAtx hbx hbwx
              go_wp2_with fail
              generalize (wr.alloc (.cells #[.string ⟨nmc.toArray⟩, .int .i64 kd, .bool nn, .bool un, .string ⟨ref.toArray⟩, .int .i64 dl] 54)) = wb2 at *
              go_region_held3 (fun w' => w'.cell? ⟨wr.heap.size, 0, none⟩ = some (.string ⟨nmc.toArray⟩) ∧ w'.cell? ⟨wr.heap.size, 1, none⟩ = some (.int .i64 kd) ∧ w'.cell? ⟨wr.heap.size, 2, none⟩ = some (.bool nn) ∧ w'.cell? ⟨wr.heap.size, 3, none⟩ = some (.bool un) ∧ w'.cell? ⟨wr.heap.size, 4, none⟩ = some (.string ⟨ref.toArray⟩) ∧ w'.cell? ⟨wr.heap.size, 5, none⟩ = some (.int .i64 dl))
                (first | exact S0 | exact S1 | exact S2 | exact S3 | exact S4 | exact S5 | exact S6)
                (first
                  | (go_at_call_of 32 (Value.string ⟨nmc.toArray⟩); refine (refStr_any nmc (by omega) wb2.drew).mono ?_; rintro e w3 ⟨rfl, b3⟩; obtain ⟨hA3, S1⟩ := heldC hAD b3; have hc3 := below_in hcD b3)
                  | (go_at_call_of 32 (Value.string ⟨ref.toArray⟩); refine (refStr_any ref (by omega) w3).mono ?_; rintro e w4 ⟨rfl, b4⟩; obtain ⟨hA4, S2⟩ := heldC hA3 b4; have hc4 := below_in hc3 b4)
                  | (go_at_call_of 31 (kd); refine (refInt_any kd IK.out w4).mono ?_; rintro e w5 ⟨rfl, b5⟩; obtain ⟨hA5, S3⟩ := heldC hA4 b5; have hc5 := below_in hc4 b5)
                  | (go_at_call_of 31 (dl); refine (refInt_any dl ID.out w5).mono ?_; rintro e w6 ⟨rfl, b6⟩; obtain ⟨hA6, S4⟩ := heldC hA5 b6; have hc6 := below_in hc5 b6)
                  | (go_at_call_of 33 (Value.bool nn); refine (refBool_any nn w6).mono ?_; rintro e w7 ⟨rfl, b7⟩; obtain ⟨hA7, S5⟩ := heldC hA6 b7; have hc7 := below_in hc6 b7)
                  | (go_at_call_of 33 (Value.bool un); refine (refBool_any un w7).mono ?_; rintro e w8 ⟨rfl, b8⟩; obtain ⟨hA8, S6⟩ := heldC hA7 b8; have hc8 := below_in hc7 b8))
              all_goals
                go_wp2_with fail
                exact ⟨⟨k' + 1, y' ++ (encS nmc ++ encS ref ++ enc kd ++ enc dl ++ encB nn ++ encB un), by omega, by go_num, by simp only [str2, List.append_assoc], HK', hAs0.below hc8 hAs0.lt, hAt0.below hc8 hAt0.lt, below_in hbx0 hc8, below_zz hbwx0 hc8⟩, by simp [intOf]; omega⟩
            · obtain rfl : cn = k' := by omega
              obtain ⟨d0, d1, d2, d3, -⟩ := hAtx.four
              have r1 : y'.length + (enc (en : Int)).length ≤ 9223372036854775807 := by omega
              have r2 : ¬ 9223372036854775807 < y'.length + (enc (en : Int)).length := by omega
              go_wp2_with fail
              refine (refInt_any en IE.out wr).mono ?_
              rintro e w6 ⟨rfl, b6⟩
              have hAs6 := hAsx.below b6 hAsx.lt
              have hbx6 := below_in hbx b6
              have hbw6 := below_zz hbwx b6
              obtain ⟨-, -, -, d3, -⟩ := (hAtx.below b6 hAtx.lt).four
              clear b6 hAsx hbx hbwx d0 d1 d2
              go_wp2_with fail
              generalize hY2 : y' ++ enc (en : Int) = Y2 at *
              have hS2 : Value.string ({ data := y'.toArray } ++ { data := (enc (en : Int)).toArray }) = .string ⟨Y2.toArray⟩ := by rw [← hY2, str2]
              have hY2l : Y2.length ≤ 800000000 := by rw [← hY2, List.length_append]; omega
              have HY2 := Lib.hid hY2
              clear r1 r2 hY2 hCle
              go_loopw [3, 83] (fun s i wx => ∃ (k3 : Nat) (y3 : List UInt8), k3 ≤ en ∧ i = .int .i64 k3 ∧ s = .string ⟨y3.toArray⟩ ∧ Hid (y3 = Y2 ++ flE chk k3) ∧ At wx w.heap.size 25 #[.int .i64 ver, .slice (some ⟨b, off, none⟩) tn tcap, .slice gA gn gcap] ∧ Below w.heap.size w wx ∧ Below Z wo wx) (fun _ i _ => en - (intOf i).toNat)
              case atStart => exact ⟨0, Y2, by omega, rfl, hS2, show _ = _ by simp [flE], hAs6, hbx6, hbw6⟩
              case round =>
                obtain ⟨k3, y3, hk3, rfl, rfl, HY3, hAs7, hbx7, hbw7⟩ := hrel
                clear hS2 hAs6 hbx6 hbw6
                have hyl3 : y3.length ≤ Y2.length + (flE chk k3).length := by rw [HY3.out, List.length_append]; omega
                have hEle := flE_le chk (k := k3) (n := en) hk3
                by_cases hlt3 : k3 < en
                · obtain ⟨eb, eoff, rfl, hebl, hecell⟩ := hE (by omega)
                  obtain ⟨x0, x1, x2, x3, x4, x5⟩ := (hecell k3 hlt3).1.keep fun i => hbw7.cell (p := ⟨eb, i, none⟩) (Nat.lt_of_lt_of_eq hebl hZ)
                  have hi := (hecell k3 hlt3).2.below (hZ ▸ hbw7)
                  have hEs := flE_succ chk k3
                  have hEle2 := flE_le chk (k := k3 + 1) (n := en) hlt3
                  rw [hEs, List.length_append] at hEle2
                  have HK3 : Hid (y3 ++ encE (treeE (chk k3)) = Y2 ++ flE chk (k3 + 1)) := by show _ = _; rw [hEs, HY3.out, List.append_assoc]
                  have hc := fun w' (b' : Below wr.heap.size wr w') => rexpr_any (chk k3) w' (hi.below b') (by omega)
                  have hyl4 : y3.length + (encE (treeE (chk k3))).length ≤ 9223372036854775807 := by omega
                  unfold Ex.val at hc
                  clear hecell hi hEs
                  go_wp2_with fail
                  have b0 := below_box wr (.cells #[.int .i64 (chk k3).op, .int .i64 (chk k3).col, .int .i64 (chk k3).v.kind, .int .i64 (chk k3).v.num, .string ⟨(chk k3).v.text.toArray⟩, .slice (chk k3).A (chk k3).n (chk k3).cap] 67)
                  refine (hc _ b0).mono ?_
                  rintro e w8 ⟨rfl, b8⟩
                  have b9 := below_in b0 b8
                  clear hc x0 x1 x2 x3 x4 x5
                  generalize encE (treeE (chk k3)) = x at *
                  go_wp2_with fail
                  exact ⟨⟨k3 + 1, y3 ++ x, by omega, by go_num, congrArg Value.string (str2 y3 x), HK3, hAs7.below b9 hAs7.lt, below_in hbx7 b9, below_zz hbw7 b9⟩, by simp [intOf]; omega⟩
                · obtain rfl : en = k3 := by omega
                  go_wp2_with fail
                  refine ⟨⟨k + 1, y3, by omega, by go_num, rfl, ?_, hAs7, hbx7⟩, by simp [intOf]; omega⟩
                  show _ = _
                  rw [HY3.out, ← HK.out, ← HY2.out, HY'.out, ← HY1.out]
                  simp only [List.append_assoc]
      · obtain rfl : tn = k := by omega
        obtain ⟨-, -, g2⟩ := hAs.tri1
        have r1 : y.length + (enc (gn : Int)).length ≤ 9223372036854775807 := by omega
        have r2 : ¬ 9223372036854775807 < y.length + (enc (gn : Int)).length := by omega
        go_wp2_with fail
        refine (refInt_any gn I3.out wr).mono ?_
        rintro e w6 ⟨rfl, b6⟩
        have hbx6 := below_in hbr b6
        obtain ⟨-, -, g2⟩ := (hAs.below b6 hAs.lt).tri1
        clear b6 hAs hbr
        go_wp2_with fail
        generalize hY2 : y ++ enc (gn : Int) = Y2 at *
        have hS2 : Value.string ({ data := y.toArray } ++ { data := (enc (gn : Int)).toArray }) = .string ⟨Y2.toArray⟩ := by rw [← hY2, str2]
        have hY2l : Y2.length ≤ 800000000 := by rw [← hY2, List.length_append]; omega
        have HY2 := Lib.hid hY2
        clear r1 r2 hY2
        go_loopw [3, 102] (fun s i wx => ∃ (k' : Nat) (y' : List UInt8), k' ≤ gn ∧ i = .int .i64 k' ∧ s = .string ⟨y'.toArray⟩ ∧ Hid (y' = Y2 ++ flG gs k') ∧ Below w.heap.size w wx) (fun _ i _ => gn - (intOf i).toNat)
        case atStart => exact ⟨0, Y2, by omega, rfl, hS2, show _ = _ by simp [flG], hbx6⟩
        case round =>
          obtain ⟨k', y', hk', rfl, rfl, HY', hbx⟩ := hrel
          clear hS2 hbx6
          have hyl' : y'.length ≤ Y2.length + (flG gs k').length := by rw [HY'.out, List.length_append]; omega
          have hGle := flG_le (gs := gs) (k := k') (n := gn) hgl.symm
          by_cases hlt' : k' < gn
          · obtain ⟨gb, goff, rfl, hgbl, hgcell⟩ := hG.2.2 (by omega)
            have hce := (hgcell k' hlt').keep fun i => hbx.cell (p := ⟨gb, i, none⟩) hgbl
            have hGs := flG_succ (gs := gs) (k := k') (by omega)
            have hGle2 := flG_le (gs := gs) (k := k' + 1) (n := gn) hgl.symm
            rw [hGs, List.length_append] at hGle2
            have HK' : Hid (y' ++ encG (gs.getD k' default) = Y2 ++ flG gs (k' + 1)) := by show _ = _; rw [hGs, HY'.out, List.append_assoc]
            have hok := hG.2.1 _ (getD_in (l := gs) (k := k') (by omega))
            clear hgcell hGs
            generalize gs.getD k' default = c at *
            obtain ⟨ro, tb, bi⟩ := c
            obtain ⟨iro, ibi, -⟩ := hok
            obtain ⟨x0, x1, x2⟩ := hce
            simp only at x0 x1 x2 iro ibi
            have hGi : encG ⟨ro, tb, bi⟩ = enc ro ++ enc bi ++ encS tb := by unfold encG; simp only [List.append_assoc]
            rw [hGi] at HK' hGle2
            simp only [List.length_append] at hGle2
            clear hGi
            have IR := Lib.hid iro
            have IB := Lib.hid ibi
            have hn1 := encS_ge tb
            have r0 : y'.length + (enc ro).length ≤ 9223372036854775807 := by omega
            have r0' : ¬ 9223372036854775807 < y'.length + (enc ro).length := by omega
            have r1 : y'.length + (enc ro).length + (enc bi).length ≤ 9223372036854775807 := by omega
            have r1' : ¬ 9223372036854775807 < y'.length + (enc ro).length + (enc bi).length := by omega
            have r2 : y'.length + (enc ro).length + (enc bi).length + (encS tb).length ≤ 9223372036854775807 := by omega
            have r2' : ¬ 9223372036854775807 < y'.length + (enc ro).length + (enc bi).length + (encS tb).length := by omega
            have hA0 := At.fresh wr 50 #[.int .i64 ro, .string ⟨tb.toArray⟩, .int .i64 bi]
            have hb0 := below_box wr (.cells #[.int .i64 ro, .string ⟨tb.toArray⟩, .int .i64 bi] 50)
            have hcD : Below (wr.alloc (.cells #[.int .i64 ro, .string ⟨tb.toArray⟩, .int .i64 bi] 50)).heap.size (wr.alloc (.cells #[.int .i64 ro, .string ⟨tb.toArray⟩, .int .i64 bi] 50)) (wr.alloc (.cells #[.int .i64 ro, .string ⟨tb.toArray⟩, .int .i64 bi] 50)).drew := (Below.refl _ _).drew
            obtain ⟨hAD, S0⟩ := heldG hA0 hcD
            have hbx0 := below_in hbx hb0
            clear hA0 iro ibi hb0 hbx
            go_wp2_with fail
            generalize (wr.alloc (.cells #[.int .i64 ro, .string ⟨tb.toArray⟩, .int .i64 bi] 50)) = wb2 at *
            go_region_held3 (fun w' => w'.cell? ⟨wr.heap.size, 0, none⟩ = some (.int .i64 ro) ∧ w'.cell? ⟨wr.heap.size, 1, none⟩ = some (.string ⟨tb.toArray⟩) ∧ w'.cell? ⟨wr.heap.size, 2, none⟩ = some (.int .i64 bi))
              (first | exact S0 | exact S1 | exact S2 | exact S3)
              (first
                | (go_at_call_of 31 (ro); refine (refInt_any ro IR.out wb2.drew).mono ?_; rintro e w3 ⟨rfl, b3⟩; obtain ⟨hA3, S1⟩ := heldG hAD b3; have hc3 := below_in hcD b3)
                | (go_at_call_of 31 (bi); refine (refInt_any bi IB.out w3).mono ?_; rintro e w4 ⟨rfl, b4⟩; obtain ⟨hA4, S2⟩ := heldG hA3 b4; have hc4 := below_in hc3 b4)
                | (go_at_call_of 32 (Value.string ⟨tb.toArray⟩); refine (refStr_any tb (by omega) w4).mono ?_; rintro e w5 ⟨rfl, b5⟩; obtain ⟨hA5, S3⟩ := heldG hA4 b5; have hc5 := below_in hc4 b5))
            all_goals
              go_wp2_with fail
              exact ⟨⟨k' + 1, y' ++ (enc ro ++ enc bi ++ encS tb), by omega, by go_num, by simp only [str2, List.append_assoc], HK', below_in hbx0 hc5⟩, by simp [intOf]; omega⟩
          · obtain rfl : gn = k' := by omega
            go_wp2_with fail
            go_ret
            exact ⟨ret_s (by rw [HY'.out, ← HY2.out, HY.out, ← HH.out]), hbx⟩
end Go.Proofs.YtnhalfdddcjicaaGreat
