/- slices.Delete at tables, in one's own row; the walk of drop. -/
import Derived.Test.YtnhalfdddcjicaaGreatQDdE
import Derived.Deep.RegionLaw
namespace Go.Proofs.YtnhalfdddcjicaaGreat
open Go.RowKit

def zeroT : List Value := [.string ⟨#[]⟩, .int .i64 0, .slice none 0 0, .slice none 0 0]
theorem zero_cellsT : (Builtin.zeroCells (Value.agg #[.string ⟨#[]⟩, .int .i64 0, .slice none 0 0, .slice none 0 0]).cells 1).toList = zeroT := by
  simp [Builtin.zeroCells, Value.cells, zeroT]
  rfl
theorem run_clearT (w : World) (ty : TypeId) (b o k c : Nat) (zs : List Value) (hk : 0 < k) (hzs : (Builtin.zeroCells (Value.agg #[.string ⟨#[]⟩, .int .i64 0, .slice none 0 0, .slice none 0 0]).cells k).toList = zs) (h1 : ∀ u ∈ zs, u.oneCell' = true)
    (hc : ∀ j, j < zs.length → (w.cell? ⟨b, o + j, none⟩).isSome = true) (hf : ∀ j, j < zs.length → w.frozen? ⟨b, o + j, none⟩ = false) :
    (Builtin.clear_ #[22] ty #[.slice (some ⟨b, o, none⟩) k c]).run Tryz.prog w = .ok (.tuple #[]) (w.setCells b o zs) := by
  have hst := run_storeCells_cells (P := Tryz.prog) b o zs 0 w (by simpa using hc) (by simpa using hf) h1
  simp only [Nat.add_zero] at hst
  obtain ⟨m, rfl⟩ : ∃ m, k = m + 1 := ⟨k - 1, by omega⟩
  simp [Builtin.clear_, run_underlying (P := Tryz.prog) Tryz.underlying22, hzs, hst]

theorem grown_sets {w : World} {g : Nat} : ∀ (vs : List Value) (o : Nat) (w' : World), w.grownBy w' (some g) → w.grownBy (w'.setCells g o vs) (some g)
  | [], _, _, h => h
  | v :: vs, o, w', h => by
    rw [World.setCells]
    exact grown_sets vs (o + 1) _ (grownBy_tr h (grownBy_set _ _ _ _))
theorem grown_drew (w : World) (g : Option Nat) : w.grownBy w.drew g := ⟨rfl, rfl, rfl, Nat.le_refl _, fun _ _ _ => rfl⟩

set_option maxRecDepth 100000 in
set_option maxHeartbeats 3200000 in
theorem deleteT_any (g n c i : Nat) (l : List Value) (w : World) (hl : l.length = c * 4) (hA : At w g 32 l.toArray) (hi : i < n) (hnc : n ≤ c) (hn : n ≤ 1000) (hcm : c ≤ maxLen)
    (h1 : ∀ u ∈ l.take (n * 4), u.oneCell' = true) :
    Calls Tryz.prog 74 #[.slice (some ⟨g, 0, none⟩) n c, .int .i64 (i : Nat), .int .i64 ((i + 1 : Nat) : Int)] w fun e w' => e = .returned (.slice (some ⟨g, 0, none⟩) (n - 1) c) ∧
      (∃ l' : List Value, At w' g 32 l'.toArray ∧ l'.length = c * 4 ∧ l'.take ((n - 1) * 4) = l.take (i * 4) ++ (l.take (n * 4)).drop ((i + 1) * 4)) ∧ w.grownBy w' (some g) := by
  unfold maxLen at hcm
  obtain ⟨i0, hi0, hz0, hzs, hzb⟩ := info_parts info_table
  have t22 := Tryz.underlying22
  have hgl := hA.lt
  have mixed : Tryz.prog.follows .mixedOrders = true := by kernel_rfl
  obtain ⟨j, hj⟩ : ∃ j, i + 1 = j := ⟨_, rfl⟩
  rw [hj]
  have hij : i < j := by omega
  have hjn : j ≤ n := by omega
  obtain ⟨mv, hmv⟩ : ∃ mv, mv = (l.take (n * 4)).drop (j * 4) := ⟨_, rfl⟩
  have hml : mv.length = (n - j) * 4 := by rw [hmv, List.length_drop, List.length_take]; omega
  have hm1 : Hid (∀ u ∈ mv, u.oneCell' = true) := by
    show ∀ _ ∈ _, _
    rw [hmv]
    exact fun u hu => h1 u (List.mem_of_mem_drop hu)
  have hmx : ∀ t u, mv[t]? = some u → w.drew.cell? ⟨g, j * 4 + t, none⟩ = some u := fun t u hu => by
    rw [At.cell (show At w.drew g _ _ from hA) (j * 4 + t)]
    rw [hmv, List.getElem?_drop, List.getElem?_take] at hu
    split at hu
    · simpa using hu
    · cases hu
  obtain ⟨A, hAA, hsrc⟩ : ∃ A : Addr, (if c = j then some (⟨g, 0, none⟩ : Addr) else some ⟨g, j * 4, none⟩) = some A ∧ Hid (∀ t u, mv[t]? = some u → w.drew.cell? (A.add t) = some u) := by
    by_cases h : c = j
    · refine ⟨⟨g, 0, none⟩, by simp [h], fun t u hu => ?_⟩
      have h0 : mv.length = 0 := by rw [hml]; omega
      rw [List.length_eq_zero_iff.1 h0] at hu
      simp at hu
    · refine ⟨⟨g, j * 4, none⟩, by simp [h], fun t u hu => ?_⟩
      rw [add_plain]
      exact hmx t u hu
  have s1 : Hid (mv.length = (n - j) * 4) := hml
  have s3 : Hid (∀ t, t < mv.length → (w.drew.cell? ⟨g, 0 + i * 4 + t, none⟩).isSome = true ∧ w.drew.frozen? ⟨g, 0 + i * 4 + t, none⟩ = false) := by
    show ∀ _, _ → _
    intro t ht
    rw [hml] at ht
    refine ⟨?_, At.unfrozen (show At w.drew g _ _ from hA) _⟩
    rw [At.cell (show At w.drew g _ _ from hA)]
    simp
    omega
  obtain ⟨W1, hW1⟩ : ∃ W1, W1 = w.drew.setCells g (0 + i * 4) mv := ⟨_, rfl⟩
  have hA1 : At W1 g 32 (layL (0 + i * 4) l mv).toArray := by rw [hW1]; exact At.sets mv _ l w.drew hA (by rw [hml]; omega)
  have hL1 : (layL (0 + i * 4) l mv).length = c * 4 := by rw [layL_len (by rw [hml]; omega)]; exact hl
  have hb1 : w.grownBy W1 (some g) := by rw [hW1]; exact grown_sets _ _ _ (grown_drew w _)
  have hW : Hid (W1 = w.drew.setCells g (0 + i * 4) mv) := hW1
  obtain ⟨L1, hL1e⟩ : ∃ L1, L1 = layL (0 + i * 4) l mv := ⟨_, rfl⟩
  rw [← hL1e] at hA1 hL1
  have hk : n - (i + (n - j)) = 1 := by omega
  have hzl : zeroT.length = 4 := rfl
  have hcl : ∀ ty, (Builtin.clear_ #[22] ty #[.slice (some ⟨g, (i + (n - j)) * 4, none⟩) (n - (i + (n - j))) (c - (i + (n - j)))]).run Tryz.prog W1 = .ok (.tuple #[]) (W1.setCells g ((i + (n - j)) * 4) zeroT) :=
    fun ty => run_clearT W1 ty g _ _ _ zeroT (by omega) (by rw [hk]; exact zero_cellsT) (fun u hu => by simp [zeroT] at hu; rcases hu with rfl | rfl | rfl | rfl <;> rfl)
      (fun t ht => by rw [At.cell hA1]; simp; rw [hzl] at ht; omega) (fun t _ => At.unfrozen hA1 _)
  rw [hk] at hcl
  have HA2 := Lib.hid (At.sets zeroT ((i + (n - j)) * 4) L1 W1 hA1 (by rw [hzl]; omega))
  have hb2 : w.grownBy (W1.setCells g ((i + (n - j)) * 4) zeroT) (some g) := grown_sets _ _ _ hb1
  have HE : Hid ((layL ((i + (n - j)) * 4) L1 zeroT).length = c * 4 ∧ (layL ((i + (n - j)) * 4) L1 zeroT).take ((n - 1) * 4) = l.take (i * 4) ++ (l.take (n * 4)).drop (j * 4)) := by
    refine ⟨by rw [layL_len (by rw [hzl]; omega)]; exact hL1, ?_⟩
    rw [show (n - 1) * 4 = (i + (n - j)) * 4 by omega, ← hmv]
    show ((L1.take ((i + (n - j)) * 4) ++ zeroT) ++ _).take ((i + (n - j)) * 4) = _
    rw [List.append_assoc, List.take_left' (by rw [List.length_take]; omega), hL1e]
    show (l.take (0 + i * 4) ++ mv ++ _).take ((i + (n - j)) * 4) = _
    rw [List.take_left' (by rw [List.length_append, List.length_take, hml]; omega), Nat.zero_add]
  have hjc : j ≤ c := by omega
  have hic : i ≤ c := by omega
  have hlen : i + (n - j) = n - 1 := by omega
  have HL := Lib.hid hlen
  have HJ := Lib.hid hj
  clear hW1 hL1e hA1 hmx hmv hml hL1 hlen hj hb1
  go_enter Tryz.func74, Tryz.ntmps74
  go_wp2_with fail
  go_region_law_o (refine step_append_room rfl (.tmp 22) (.tmp 25) 22 rfl 32 i0 4 t22 hi0 hzs g 0 i c (by simp [Act.eval, Act.put]) A (n - j) (c - j) mv (by simp [Act.eval, Act.put]) s1.out hsrc.out hm1.out (by omega) s3.out ?_; rw [← hW.out])
  go_wp2_with fail
  go_ret
  exact ⟨by rw [HL.out]; rfl, ⟨_, HA2.out, HE.out.1, HE.out.2⟩, hb2⟩
theorem erase_flat {L : List Tb} {l l' : List Value} {n j : Nat} (ht : l.take (n * 4) = L.flatMap Tb.cs) (h : l'.take ((n - 1) * 4) = l.take (j * 4) ++ (l.take (n * 4)).drop ((j + 1) * 4)) (hj : j < n) : l'.take ((n - 1) * 4) = (L.eraseIdx j).flatMap Tb.cs := by
  have e1 : l.take (j * 4) = (L.take j).flatMap Tb.cs := by rw [← flat_take4, ← ht, List.take_take, Nat.min_eq_left (by omega)]
  rw [h, ht, e1, flat_drop4, List.eraseIdx_eq_take_drop_succ, List.flatMap_append]
/-- A table less, and the row stored. -/
theorem OutS.del {w w8 : World} {p B : Nat} {ver : Int} {g c : Nat} {L : List Tb} {A' : Option Addr} {c' : Nat} {gs : List Gr} (h : OutS w p B ver (some ⟨g, 0, none⟩) c L A' c' gs) {j : Nat} (hj : j < L.length)
    (hg8 : w.grownBy w8 (some g)) (ho8 : w8.ownsRow B 32 4 (.slice (some ⟨g, 0, none⟩) (L.length - 1) c) (L.length - 1) ((L.eraseIdx j).flatMap Tb.cs)) :
    OutS (w8.setCell ⟨p, 1, none⟩ (.slice (some ⟨g, 0, none⟩) (L.length - 1) c)) p B ver (some ⟨g, 0, none⟩) c (L.eraseIdx j) A' c' gs := by
  have hlen : (L.eraseIdx j).length = L.length - 1 := by rw [List.length_eraseIdx, if_pos hj]
  have hpl := h.lt
  have hnp : (Value.slice (some ⟨g, 0, none⟩) L.length c).ownBlock ≠ some p := block_ne h.own h.at_ (by decide)
  have hgp : g ≠ p := fun e => hnp (by rw [← e]; rfl)
  have hz8 := hg8.size
  have hs9 : (w8.setCell ⟨p, 1, none⟩ (.slice (some ⟨g, 0, none⟩) (L.length - 1) c)).heap.size = w8.heap.size := by simp [World.setCell]
  have hset : ∀ b, b ≠ p → (w8.setCell ⟨p, 1, none⟩ (.slice (some ⟨g, 0, none⟩) (L.length - 1) c)).heap[b]? = w8.heap[b]? := fun b hb => Below.heap_setCell _ _ _ _ hb
  refine ⟨?_, h.hp, h.ver, by rw [hlen]; have := h.tl; omega, h.gl, ?_, fun x hx => ?_, ?_, h.gok⟩
  · rw [hlen]
    have a8 : At w8 p 25 #[.int .i64 ver, .slice (some ⟨g, 0, none⟩) L.length c, .slice A' gs.length c'] := h.at_.keep (hg8.block p hpl (fun e => hgp (Option.some.inj e).symm))
    exact a8.put 1 (.slice (some ⟨g, 0, none⟩) (L.length - 1) c)
  · rw [hlen]
    exact own_block_keep ho8 fun b hb => by
      obtain rfl : g = b := Option.some.inj hb
      exact hset g hgp
  · rw [hlen]
    refine (h.keep x (List.mem_of_mem_eraseIdx hx)).keep (by omega) (fun b hb hl => ?_) (fun b hb hl => ⟨hb.1, hb.2.1, hb.2.2⟩)
    have hgb : g ≠ b := fun e => hb.2.1 (by show some g = some b; rw [e])
    exact (hset b hb.2.2).trans (hg8.block b hl (fun e => hgb (Option.some.inj e).symm))
  · exact own_block_keep h.gown fun b hb => by
      have k2 : b ≠ p := fun e => block_ne h.gown h.at_ (by decide) (by rw [hb, e])
      have k3 := (World.ownsRow.lt h.gown b hb).2
      have k1 : b ≠ g := fun e => by
        rcases h.gown.2 with ⟨e', _⟩ | ⟨g', cap', cur, e', _, hh, _⟩
        · rw [e'] at hb; simp [Value.ownBlock] at hb
        · rw [e'] at hb
          obtain rfl : g' = b := Option.some.inj hb
          exact block_ne h.own (show At w g' _ cur from hh) (by decide) (by show some g = some g'; rw [e])
      exact (hset b k2).trans (hg8.block b k3 (fun e => k1 (Option.some.inj e)))
/-- Other grants stored. -/
theorem OutS.grants {w w8 : World} {p B : Nat} {ver : Int} {A : Option Addr} {c : Nat} {L : List Tb} {A' : Option Addr} {c' : Nat} {gs : List Gr} (h : OutS w p B ver A c L A' c' gs) (hb8 : Below w.heap.size w w8) {A2 : Option Addr} {c2 : Nat} {gs2 : List Gr} (hl : gs2.length ≤ 2000000) (hok : ∀ g ∈ gs2, g.Ok)
    (ho8 : w8.ownsRow B 50 3 (.slice A2 gs2.length c2) gs2.length (gs2.flatMap Gr.cs)) (hp8 : (Value.slice A2 gs2.length c2).ownBlock ≠ some p) : OutS (w8.setCell ⟨p, 2, none⟩ (.slice A2 gs2.length c2)) p B ver A c L A2 c2 gs2 := by
  have hpl := h.lt
  have hz8 := hb8.size
  have hs9 : (w8.setCell ⟨p, 2, none⟩ (.slice A2 gs2.length c2)).heap.size = w8.heap.size := by simp [World.setCell]
  have hset : ∀ b, b ≠ p → (w8.setCell ⟨p, 2, none⟩ (.slice A2 gs2.length c2)).heap[b]? = w8.heap[b]? := fun b hb => Below.heap_setCell _ _ _ _ hb
  refine ⟨?_, h.hp, h.ver, h.tl, hl, ?_, fun x hx => ?_, ?_, hok⟩
  · exact (h.at_.below hb8 hpl).put 2 (.slice A2 gs2.length c2)
  · exact own_block_keep h.own fun b hb => (hset b (fun e => block_ne h.own h.at_ (by decide) (by rw [hb, e]))).trans (hb8.block b (World.ownsRow.lt h.own b hb).2)
  · exact (h.keep x hx).keep (by omega) (fun b hb hl => (hset b hb.2.2).trans (hb8.block b hl)) (fun b hb _ => hb)
  · exact own_block_keep ho8 fun b hb => hset b (fun e => hp8 (by rw [hb, e]))

/-- What is wrong first with a table that is to be dropped. -/
def ErrD (s : Sc) (role : Int) (x : List UInt8) (er : Int) : Prop := (ErrO s role x er ∧ er ≠ 0) ∨ (ErrO s role x 0 ∧ ((refersS s x ∧ er = 13) ∨ (¬ refersS s x ∧ er = 0)))
def DrR (p B : Nat) (ver : Int) (A : Option Addr) (c : Nat) (L : List Tb) (A' : Option Addr) (c' : Nat) (gs : List Gr) (role : Int) (x : List UInt8) (e : Ending) (w' : World) : Prop :=
  (∃ er, e = .returned (.int .i64 er) ∧ er ≠ 0 ∧ ErrD (outSc ver A c L A' c' gs) role x er) ∨
  (∃ A2 c2 A3 c3 j, e = .returned (.int .i64 0) ∧ ErrD (outSc ver A c L A' c' gs) role x 0 ∧ tabAt (outSc ver A c L A' c' gs) x = some j ∧ OutS w' p B ver A2 c2 (L.eraseIdx j) A3 c3 (woG x gs))

set_option maxRecDepth 100000 in
set_option maxHeartbeats 6400000 in
theorem drop_any (p B : Nat) (ver : Int) (A : Option Addr) (c : Nat) (L : List Tb) (A' : Option Addr) (c' : Nat) (gs : List Gr) (role : Int) (x : List UInt8) (w : World) (hO : OutS w p B ver A c L A' c' gs) (hw : wtS (outSc ver A c L A' c' gs) ≤ 1048576) (hn : L.length ≤ 1000 ∧ gs.length ≤ 1000) :
    Calls Tryz.prog 42 #[.pointer (some ⟨p, 0, none⟩), .int .i64 role, .string ⟨x.toArray⟩] w fun e w' => DrR p B ver A c L A' c' gs role x e w' ∧ Below B w w' := by
  have HN : Hid (∀ er w', er ≠ 0 → ErrD (outSc ver A c L A' c' gs) role x er → DrR p B ver A c L A' c' gs role x (.returned (.int .i64 er)) w') := by
    show ∀ _, _
    exact fun er w' h1 h2 => .inl ⟨er, rfl, h1, h2⟩
  have HY : Hid (∀ A2 c2 A3 c3 j w', ErrD (outSc ver A c L A' c' gs) role x 0 → tabAt (outSc ver A c L A' c' gs) x = some j → OutS w' p B ver A2 c2 (L.eraseIdx j) A3 c3 (woG x gs) → DrR p B ver A c L A' c' gs role x (.returned (.int .i64 0)) w') := by
    show ∀ _, _
    exact fun A2 c2 A3 c3 j w' h1 h2 h3 => .inr ⟨A2, c2, A3, c3, j, rfl, h1, h2, h3⟩
  have hBw := hO.base
  have hOw := fun w1 (h : InS w1 (outSc ver A c L A' c' gs)) => owned_any (outSc ver A c L A' c' gs) role x w1 h
  have hRf := fun w1 (h : InS w1 (outSc ver A c L A' c' gs)) => isRef_any (outSc ver A c L A' c' gs) x w1 h hw
  have hP := fun w1 (h : InS w1 (outSc ver A c L A' c' gs)) => dplace_any (outSc ver A c L A' c' gs) x w1 h
  have hin : ∀ w1, OutS w1 p B ver A c L A' c' gs → InS w1 (outSc ver A c L A' c' gs) := fun _ h => h.inS
  have HI : Hid (∀ er, (ErrO (outSc ver A c L A' c' gs) role x er ∧ er ≠ 0) ∨ (ErrO (outSc ver A c L A' c' gs) role x 0 ∧ ((refersS (outSc ver A c L A' c' gs) x ∧ er = 13) ∨ (¬ refersS (outSc ver A c L A' c' gs) x ∧ er = 0))) → ErrD (outSc ver A c L A' c' gs) role x er) := by
    show ∀ _, _
    exact fun er h => h
  have HT : Hid (ErrO (outSc ver A c L A' c' gs) role x 0 → ∃ j, j < L.length ∧ tabAt (outSc ver A c L A' c' gs) x = some j ∧ placeI (outSc ver A c L A' c' gs) x = (j : Int)) := by
    show _ → _
    intro h
    have hne : tabAt (outSc ver A c L A' c' gs) x ≠ none := by
      rcases h with ⟨_, h⟩ | ⟨h, _⟩
      · cases h
      · exact h
    cases hj : tabAt (outSc ver A c L A' c' gs) x with
    | none => exact absurd hj hne
    | some j => exact ⟨j, (firstAt_some hj).1, rfl, by unfold placeI; rw [hj]⟩
  obtain ⟨p0, p1, p2⟩ := hO.at_.tri0
  have hOc := hOw _ (hin _ hO)
  rw [outSc_val] at hOc hP hRf
  generalize outSc ver A c L A' c' gs = sc at *
  generalize ErrD sc role x = ED at *
  generalize DrR p B ver A c L A' c' gs role x = DR at *
  generalize refersS sc x = RS at *
  generalize placeI sc x = PI at *
  generalize ErrO sc role x = EO at *
  clear hOw hw
  go_enter Tryz.func42, Tryz.ntmps42
  go_wp2_with fail
  refine hOc.mono ?_
  rintro e w1 ⟨⟨er, rfl, hEr⟩, b1⟩
  clear hOc
  by_cases her : er = 0
  · subst her
    have hO1 := hO.below b1
    clear p0 p1 p2
    obtain ⟨p0, p1, p2⟩ := hO1.at_.tri0
    have hRc := hRf _ (hin _ hO1)
    have HER := Lib.hid hEr
    clear hEr hRf
    go_wp2_with fail
    refine hRc.mono ?_
    rintro e w2 ⟨⟨Bo, rfl, hBo⟩, b2⟩
    have hb2 := below_in b1 b2
    clear hRc b1 b2
    cases Bo with
    | true =>
      have HX := Lib.hid (fun w' => HN.out 13 w' (by decide) (HI.out 13 (.inr ⟨HER.out, .inl ⟨hBo.1 rfl, rfl⟩⟩)))
      clear HN HY HI HT hBo
      go_wp2_with fail
      go_ret
      exact ⟨HX.out _, hb2.mono hBw⟩
    | false =>
      have HEF := Lib.hid (HI.out 0 (.inr ⟨HER.out, .inr ⟨fun h => (by have := hBo.2 h; cases this), rfl⟩⟩))
      clear HN HI hBo
      obtain ⟨j, hj, htj, rfl⟩ := HT.out HER.out
      have hO2 := hO.below hb2
      clear p0 p1 p2 hO1
      obtain ⟨p0, p1, p2⟩ := hO2.at_.tri0
      have hPc := hP _ (hin _ hO2)
      have HTJ := Lib.hid htj
      clear htj HT HER hP
      go_wp2_with fail
      refine hPc.mono ?_
      rintro e w3 ⟨rfl, b3⟩
      have hb3 := below_in hb2 b3
      have hO3 := hO.below hb3
      clear p0 p1 p2 hPc hb2 b3 hO2
      obtain ⟨p0, p1, p2⟩ := hO3.at_.tri0
      obtain ⟨hn1, hn2⟩ := hn
      obtain ⟨g, cg, l, hv, hbg, hA, hnc, hcm, hll, ht⟩ := own_at4 hO3.own (by omega)
      injection hv with hv1 hv2 hv3
      subst hv1
      subst hv3
      have hone : ∀ u ∈ l.take (L.length * 4), u.oneCell' = true := fun u hu => by
        rw [ht] at hu
        obtain ⟨a, _, ha⟩ := List.mem_flatMap.1 hu
        simp [Tb.cs] at ha
        rcases ha with rfl | rfl | rfl | rfl <;> rfl
      have hDc := deleteT_any g L.length c j l w3 hll hA hj hnc hn1 hcm hone
      rw [show ((j + 1 : Nat) : Int) = (j : Int) + 1 by omega] at hDc
      have HT4 := Lib.hid ht
      have HO3 := Lib.hid hO3
      have hjI : I64 ((j : Int) + 1) := by unfold I64; omega
      clear ht hone hA hv2 hO3
      go_wp2_with fail
      refine hDc.mono ?_
      rintro e w4 ⟨rfl, ⟨l', hA4, hl4, ht4⟩, g4⟩
      have hO5 := HO3.out.del hj g4 (own_mk4 (by rw [List.length_eraseIdx, if_pos hj]) hbg hA4 (by omega) hcm hl4 (erase_flat HT4.out ht4 hj))
      have hb5 : Below B w (w4.setCell ⟨p, 1, none⟩ (.slice (some ⟨g, 0, none⟩) (L.length - 1) c)) := ((hb3.mono hBw).grown g4 HO3.out.base (fun k e => by injection e with e; omega)).setCell (p := ⟨p, 1, none⟩) hO.hp _
      have hgp : p ≠ g := fun e => block_ne HO3.out.own HO3.out.at_ (by decide) (by rw [e]; rfl)
      have aP4 : At w4 p 25 #[.int .i64 ver, .slice (some ⟨g, 0, none⟩) L.length c, .slice A' gs.length c'] := At.grown HO3.out.at_ g4 (fun e => hgp (Option.some.inj e))
      have f1 : w4.cell? ⟨p, 1, none⟩ = some (.slice (some ⟨g, 0, none⟩) L.length c) := aP4.cell 1
      have f2 := aP4.unfrozen 1
      clear p0 p1 p2 hDc g4 ht4 hA4 hl4 aP4 hb3
      have hWo := gwithout_any A' gs.length c' gs x _ hO5.rowG hn2
      obtain ⟨-, -, p2⟩ := hO5.at_.tri0
      go_wp2_with fail
      generalize w4.setCell ⟨p, 1, none⟩ (.slice (some ⟨g, 0, none⟩) (L.length - 1) c) = W5 at *
      clear f1 f2
      refine hWo.mono ?_
      rintro e w6 ⟨gv, rfl, hgo, b6⟩
      have hok2 : ∀ y ∈ woG x gs, y.Ok := fun y hy => hO.gok y (List.mem_filter.1 (show y ∈ gs.filter _ from hy)).1
      obtain ⟨A3, c3, rfl, -, -⟩ := own_rowG hgo hok2
      have hwl := wo_len x gs
      have hO7 := hO5.grants b6 (by omega) hok2 (own_mono hgo hO5.base) (fun e => by have := (World.ownsRow.lt hgo p e).1; have := hO5.lt; omega)
      have hb7 := (below_inB hb5 b6 hBw).setCell (p := ⟨p, 2, none⟩) hO.hp (.slice A3 (woG x gs).length c3)
      have aP6 := hO5.at_.below b6 hO5.lt
      have f1 : w6.cell? ⟨p, 2, none⟩ = some (.slice A' gs.length c') := aP6.cell 2
      have f2 := aP6.unfrozen 2
      have HO7 := Lib.hid hO7
      clear hO7 hWo hgo p2 hO5 hb5 b6
      go_wp2_with fail
      go_ret
      exact ⟨HY.out _ _ _ _ j _ HEF.out HTJ.out HO7.out, hb7⟩
  · have HX := Lib.hid (fun w' => HN.out er w' her (HI.out er (.inl ⟨hEr, her⟩)))
    have her2 : (er != 0) = true := by simpa using her
    clear HN HY HI HT hEr hRf hP
    go_wp2_with fail
    go_ret
    exact ⟨HX.out _, b1.mono hBw⟩
end Go.Proofs.YtnhalfdddcjicaaGreat
