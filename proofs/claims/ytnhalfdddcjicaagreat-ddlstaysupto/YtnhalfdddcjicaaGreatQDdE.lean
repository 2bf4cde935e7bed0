/- The schema that is changed, in memory; the walk of create. -/
import Derived.Test.YtnhalfdddcjicaaGreatQDdD
import Derived.StillTailTactics
namespace Go.Proofs.YtnhalfdddcjicaaGreat
open Go.RowKit

theorem below_inB {B : Nat} {w w1 w2 : World} (h : Below B w w1) (k : Below w1.heap.size w1 w2) (hB : B ≤ w.heap.size) : Below B w w2 := h.trans (k.mono (Nat.le_trans hB h.size))
/-- The schema that is changed: in block p; its tables in a row of its own. -/
structure OutS (w : World) (p B : Nat) (ver : Int) (A : Option Addr) (c : Nat) (L : List Tb) (A' : Option Addr) (c' : Nat) (gs : List Gr) : Prop where
  at_ : At w p 25 #[.int .i64 ver, .slice A L.length c, .slice A' gs.length c']
  hp : B ≤ p
  ver : I64 ver
  tl : L.length ≤ 2000000
  gl : gs.length ≤ 2000000
  own : w.ownsRow B 32 4 (.slice A L.length c) L.length (L.flatMap Tb.cs)
  keep : ∀ x ∈ L, KeepT (fun b => B ≤ b ∧ (Value.slice A L.length c).ownBlock ≠ some b ∧ b ≠ p) w x
  gown : w.ownsRow B 50 3 (.slice A' gs.length c') gs.length (gs.flatMap Gr.cs)
  gok : ∀ g ∈ gs, g.Ok
def outSc (ver : Int) (A : Option Addr) (c : Nat) (L : List Tb) (A' : Option Addr) (c' : Nat) (gs : List Gr) : Sc := ⟨ver, A, L.length, c, fun j => L.getD j default, A', gs.length, c', gs⟩
section
variable {w w' : World} {p B : Nat} {ver : Int} {A : Option Addr} {c : Nat} {L : List Tb} {A' : Option Addr} {c' : Nat} {gs : List Gr}
theorem tree_out : treeS (outSc ver A c L A' c' gs) = ⟨ver, L.map treeT, gs⟩ := by
  unfold treeS outSc
  simp only
  rw [tree_rowT]
theorem OutS.lt (h : OutS w p B ver A c L A' c' gs) : p < w.heap.size := h.at_.lt
theorem OutS.base (h : OutS w p B ver A c L A' c' gs) : B ≤ w.heap.size := Nat.le_of_lt (Nat.lt_of_le_of_lt h.hp h.lt)
theorem OutS.rowT (h : OutS w p B ver A c L A' c' gs) : RowT w A L.length fun j => L.getD j default := fun hn => by
  obtain ⟨A2, c2, e, hc⟩ := own_cells Tb.cs default (fun _ => rfl) L h.own rfl
  injection e with e1 e2 e3
  subst e1
  obtain ⟨g, e1, e2, e3, e4⟩ := hc hn
  refine ⟨g, 0, e1, e3, fun j hj => ?_⟩
  have k := e4 j hj
  rw [Nat.zero_add]
  refine ⟨⟨k 0 (by omega), k 1 (by omega), k 2 (by omega), k 3 (by omega)⟩, ?_⟩
  refine (h.keep _ ?_).inT
  show L.getD j default ∈ L
  rw [List.getD_eq_getElem?_getD, List.getElem?_eq_getElem hj]
  exact List.getElem_mem hj
theorem OutS.rowG (h : OutS w p B ver A c L A' c' gs) : RowG w A' gs.length gs := by
  obtain ⟨A2, c2, e, hr, -⟩ := own_rowG h.gown h.gok
  injection e with e1 e2 e3
  subst e1
  exact hr
theorem OutS.inS (h : OutS w p B ver A c L A' c' gs) : InS w (outSc ver A c L A' c' gs) :=
  ⟨h.ver, by show L.length ≤ maxLen; have := h.tl; unfold maxLen; omega, by show gs.length ≤ maxLen; have := h.gl; unfold maxLen; omega, h.rowT, h.rowG⟩
theorem OutS.below (h : OutS w p B ver A c L A' c' gs) (hb : Below w.heap.size w w') : OutS w' p B ver A c L A' c' gs :=
  ⟨h.at_.below hb h.lt, h.hp, h.ver, h.tl, h.gl, own_below h.own hb, fun x hx => (h.keep x hx).below hb, own_below h.gown hb, h.gok⟩
theorem OutS.drew (h : OutS w p B ver A c L A' c' gs) : OutS w.drew p B ver A c L A' c' gs := h.below (Below.refl _ _).drew
end
theorem outSc_val (ver : Int) (A : Option Addr) (c : Nat) (L : List Tb) (A' : Option Addr) (c' : Nat) (gs : List Gr) : (outSc ver A c L A' c' gs).val = .agg #[.int .i64 ver, .slice A L.length c, .slice A' gs.length c'] := rfl
theorem block_ne {w : World} {base g n k : Nat} {e t : TypeId} {v : Value} {xs : List Value} {cs : Array Value} (h : w.ownsRow base e k v n xs) (hg : At w g t cs) (hne : e ≠ t) : v.ownBlock ≠ some g := by
  rcases h.2 with ⟨rfl, _⟩ | ⟨g', cap, cur, rfl, _, hh, _⟩
  · intro h; simp [Value.ownBlock] at h
  · intro he
    obtain rfl : g' = g := Option.some.inj he
    exact hne (hg.type_eq hh).symm
theorem own_block_keep {w w' : World} {base : Nat} {e : TypeId} {size n : Nat} {v : Value} {xs : List Value} (h : w.ownsRow base e size v n xs) (hk : ∀ b, v.ownBlock = some b → w'.heap[b]? = w.heap[b]?) : w'.ownsRow base e size v n xs := by
  refine ⟨h.1, ?_⟩
  rcases h.2 with k | ⟨g, cap, cur, rfl, hg, hh, k⟩
  · exact .inl k
  · exact .inr ⟨g, cap, cur, rfl, hg, (hk g rfl).trans hh, k⟩
/-- One table more, and the row stored. -/
theorem OutS.app {w w7 w8 : World} {p B : Nat} {ver : Int} {A : Option Addr} {c : Nat} {L : List Tb} {A' : Option Addr} {c' : Nat} {gs : List Gr} (h : OutS w p B ver A c L A' c' gs) {o : Tb} {K g cap : Nat} (hL : L.length < 2000000) (hb7 : Below w.heap.size w w7) (hK : KeepT (fun b => K ≤ b) w7 o) (hKw : w.heap.size ≤ K)
    (ho8 : w8.ownsRow B 32 4 (.slice (some ⟨g, 0, none⟩) (L.length + 1) cap) (L.length + 1) (L.flatMap Tb.cs ++ o.cs)) (hg8 : w7.grownBy w8 (Value.slice A L.length c).ownBlock) (hl8 : (Value.slice A L.length c).ownBlock = some g ∨ g = w7.heap.size) :
    OutS (w8.setCell ⟨p, 1, none⟩ (.slice (some ⟨g, 0, none⟩) (L.length + 1) cap)) p B ver (some ⟨g, 0, none⟩) cap (L ++ [o]) A' c' gs := by
  have hlen : (L ++ [o]).length = L.length + 1 := by simp
  have hflat : (L ++ [o]).flatMap Tb.cs = L.flatMap Tb.cs ++ o.cs := by simp
  have hz := hb7.size
  have hpl := h.lt
  have hnp : (Value.slice A L.length c).ownBlock ≠ some p := block_ne h.own h.at_ (by decide)
  have hgp : g ≠ p := by
    rcases hl8 with e | e
    · exact fun e2 => hnp (by rw [e, e2])
    · omega
  have hs9 : (w8.setCell ⟨p, 1, none⟩ (.slice (some ⟨g, 0, none⟩) (L.length + 1) cap)).heap.size = w8.heap.size := by simp [World.setCell]
  have hz8 := hg8.size
  have hset : ∀ b, b ≠ p → (w8.setCell ⟨p, 1, none⟩ (.slice (some ⟨g, 0, none⟩) (L.length + 1) cap)).heap[b]? = w8.heap[b]? := fun b hb => Below.heap_setCell _ _ _ _ hb
  have h7 : ∀ b, b < w.heap.size → w7.heap[b]? = w.heap[b]? := fun b hb => hb7.block b hb
  have hapart : ∀ b, (Value.slice A' gs.length c').ownBlock = some b → (Value.slice A L.length c).ownBlock ≠ some b ∧ b ≠ p ∧ b < w.heap.size := fun b hb => by
    refine ⟨?_, fun e => block_ne h.gown h.at_ (by decide) (by rw [hb, e]), (World.ownsRow.lt h.gown b hb).2⟩
    rcases h.gown.2 with ⟨e, _⟩ | ⟨g', cap', cur, e, _, hh, _⟩
    · rw [e] at hb; simp [Value.ownBlock] at hb
    · rw [e] at hb
      obtain rfl : g' = b := Option.some.inj hb
      exact block_ne h.own (show At w g' _ cur from hh) (by decide)
  refine ⟨?_, h.hp, h.ver, by rw [hlen]; omega, h.gl, ?_, fun x hx => ?_, ?_, h.gok⟩
  · rw [hlen]
    have a8 : At w8 p 25 #[.int .i64 ver, .slice A L.length c, .slice A' gs.length c'] := (h.at_.below hb7 hpl).keep (hg8.block p (by omega) (fun e => hnp e.symm))
    exact a8.put 1 (.slice (some ⟨g, 0, none⟩) (L.length + 1) cap)
  · rw [hlen, hflat]
    exact own_block_keep ho8 fun b hb => by
      obtain rfl : g = b := Option.some.inj hb
      exact hset g hgp
  · rw [hlen]
    have hown : (Value.slice (some ⟨g, 0, none⟩) (L.length + 1) cap).ownBlock = some g := rfl
    rw [hown]
    rcases List.mem_append.1 hx with hx | hx
    · refine (h.keep x hx).keep (by omega) (fun b hb hl => ?_) (fun b hb hl => ⟨hb.1, fun e => ?_, hb.2.2⟩)
      · exact (hset b hb.2.2).trans ((hg8.block b (by omega) (fun e => hb.2.1 e.symm)).trans (h7 b hl))
      · have e2 : g = b := Option.some.inj e
        rcases hl8 with e3 | e3
        · exact hb.2.1 (by rw [e3, e2])
        · omega
    · have e : x = o := by simpa using hx
      rw [e]
      have hna : ∀ b, K ≤ b → (Value.slice A L.length c).ownBlock ≠ some b := fun b hb e => by
        have := (World.ownsRow.lt h.own b e).2
        omega
      refine hK.keep (by omega) (fun b hb hl => ?_) (fun b hb hl => ⟨?_, fun e => ?_, ?_⟩)
      · have hb : K ≤ b := hb
        exact (hset b (by omega)).trans (hg8.block b hl (fun e => hna b hb e.symm))
      · have hb : K ≤ b := hb
        have := h.base
        omega
      · have hb : K ≤ b := hb
        have e2 : g = b := Option.some.inj e
        rcases hl8 with e3 | e3
        · exact hna b hb (by rw [e3, e2])
        · omega
      · have hb : K ≤ b := hb
        omega
  · exact own_block_keep h.gown fun b hb => by
      obtain ⟨k1, k2, k3⟩ := hapart b hb
      exact (hset b k2).trans ((hg8.block b (by omega) (fun e => k1 e.symm)).trans (h7 b k3))
section
variable {P : Program} {ops : Array Oper} {Q : Exit → Act → World → Prop} {md : Region.Mode} {S : World → Prop}
theorem two_at {i j : Nat} {o p : Oper} {fuel : Nat} {listed : Array Bool} {a : Act} {w : World} (hi : (ops.toList.drop i).head? = some o) (hj : (ops.toList.drop j).head? = some p) (hr : Region.ready md ops listed = [i, j])
    (hw : Region.wanted o (yielded ops a.tmps) = true) (hv : Region.wanted p (yielded ops a.tmps) = true)
    (h : ∀ K' : Act → World → Prop, Shut (∀ a w, S w → (S w → wpAnyH P md ops Q S fuel (listed.setIfInBounds i true) a w) → K' a w) → Oper.wp P o a w K' Q)
    (h' : ∀ K' : Act → World → Prop, Shut (∀ a w, S w → (S w → wpAnyH P md ops Q S fuel (listed.setIfInBounds j true) a w) → K' a w) → Oper.wp P p a w K' Q) : wpAnyH P md ops Q S (fuel + 1) listed a w :=
  wpAnyH_ready hr (by simp) (AllReadyH.cons (op_at hi) (fun K hK => by rw [if_pos hw]; exact h K hK) (AllReadyH.cons (op_at hj) (fun K hK => by rw [if_pos hv]; exact h' K hK) AllReadyH.nil))
end
/-- What create leaves. -/
def CrR (p B : Nat) (ver : Int) (A : Option Addr) (c : Nat) (L : List Tb) (A' : Option Addr) (c' : Nat) (gs : List Gr) (role : Int) (d : Tb) (e : Ending) (w' : World) : Prop :=
  (∃ er, e = .returned (.int .i64 er) ∧ er ≠ 0 ∧ (SortedG gs → ErrC (outSc ver A c L A' c' gs) role d er)) ∨
  (∃ A2 c2 x, e = .returned (.int .i64 0) ∧ (SortedG gs → ErrC (outSc ver A c L A' c' gs) role d 0) ∧ simT x (d.own role) ∧ OutS w' p B ver A2 c2 (L ++ [x]) A' c' gs)

set_option maxRecDepth 100000 in
set_option maxHeartbeats 6400000 in
theorem create_any (p B : Nat) (ver : Int) (A : Option Addr) (c : Nat) (L : List Tb) (A' : Option Addr) (c' : Nat) (gs : List Gr) (role : Int) (d : Tb) (w : World) (hO : OutS w p B ver A c L A' c' gs) (hd : InT w d) (hwd : wtT d ≤ 1048573) (hrole : I64 role) :
    Calls Tryz.prog 41 #[.pointer (some ⟨p, 0, none⟩), .int .i64 role, d.val] w fun e w' => CrR p B ver A c L A' c' gs role d e w' ∧ Below B w w' := by
  have HN : Hid (∀ er w', er ≠ 0 → (SortedG gs → ErrC (outSc ver A c L A' c' gs) role d er) → CrR p B ver A c L A' c' gs role d (.returned (.int .i64 er)) w') := by
    show ∀ _, _
    exact fun er w' h1 h2 => .inl ⟨er, rfl, h1, h2⟩
  have HY : Hid (∀ A2 c2 x w', (SortedG gs → ErrC (outSc ver A c L A' c' gs) role d 0) → simT x (d.own role) → OutS w' p B ver A2 c2 (L ++ [x]) A' c' gs → CrR p B ver A c L A' c' gs role d (.returned (.int .i64 0)) w') := by
    show ∀ _, _
    exact fun A2 c2 x w' h1 h2 h3 => .inr ⟨A2, c2, x, rfl, h1, h2, h3⟩
  have HE : Hid (∀ er, ErrC (outSc ver A c L A' c' gs) role d er ↔ (tabAt (outSc ver A c L A' c' gs) d.name ≠ none ∧ er = 8) ∨ (tabAt (outSc ver A c L A' c' gs) d.name = none ∧ ((goodE (d.own role) (outSc ver A c L A' c' gs) ≠ 0 ∧ er = goodE (d.own role) (outSc ver A c L A' c' gs)) ∨ (goodE (d.own role) (outSc ver A c L A' c' gs) = 0 ∧
    ((¬ refsOk (outSc ver A c L A' c' gs) role d ∧ er = 14) ∨ (refsOk (outSc ver A c L A' c' gs) role d ∧ ((12 ≤ L.length ∧ er = 3) ∨ (L.length < 12 ∧ er = 0)))))))) := by
    show ∀ _, _
    exact fun er => Iff.rfl
  have hpl := hO.lt
  have hBw := hO.base
  have hLmax := hO.tl
  have hbx := below_box w (.cells #[.string ⟨d.name.toArray⟩, .int .i64 d.owner, .slice d.cA d.cn d.ccap, .slice d.eA d.en d.ecap] 32)
  have aD := At.fresh w 32 #[.string ⟨d.name.toArray⟩, .int .i64 d.owner, .slice d.cA d.cn d.ccap, .slice d.eA d.en d.ecap]
  have hO1 := hO.below hbx
  have hd1 := hd.below hbx
  have hbB : Below B w (w.alloc (.cells #[.string ⟨d.name.toArray⟩, .int .i64 d.owner, .slice d.cA d.cn d.ccap, .slice d.eA d.en d.ecap] 32)) := hbx.mono hBw
  obtain ⟨W, hW⟩ : ∃ W, w.alloc (.cells #[.string ⟨d.name.toArray⟩, .int .i64 d.owner, .slice d.cA d.cn d.ccap, .slice d.eA d.en d.ecap] 32) = W := ⟨_, rfl⟩
  rw [hW] at hO1 hd1 hbB aD hbx
  have hWz : W.heap.size = w.heap.size + 1 := by rw [← hW]; simp
  have hWc := Lib.hid hW
  have hP := fun w1 (h : InS w1 (outSc ver A c L A' c' gs)) => dplace_any (outSc ver A c L A' c' gs) d.name w1 h
  have hG := fun w1 (h : InS w1 (outSc ver A c L A' c' gs)) (hx : InT w1 (d.own role)) => tgood_any (d.own role) (outSc ver A c L A' c' gs) w1 hx h
  have hM := fun w1 (h : InS w1 (outSc ver A c L A' c' gs)) (hx : InT w1 (d.own role)) => mayRef_any (outSc ver A c L A' c' gs) role (d.own role) w1 h hx
  have hin : ∀ w1, OutS w1 p B ver A c L A' c' gs → InS w1 (outSc ver A c L A' c' gs) := fun _ h => h.inS
  have hCp := fun w1 (hx : InT w1 (d.own role)) => dcopyT_any (d.own role) w1 hx hwd
  unfold RefE at hM
  have hro : refsOk (outSc ver A c L A' c' gs) role (d.own role) = refsOk (outSc ver A c L A' c' gs) role d := rfl
  have hsg : (outSc ver A c L A' c' gs).grants = gs := rfl
  rw [hro, hsg] at hM
  unfold placeI at hP
  rw [outSc_val] at hP hG hM
  clear hro hsg hW
  generalize outSc ver A c L A' c' gs = sc at *
  generalize CrR p B ver A c L A' c' gs role d = CR at *
  generalize SortedG gs = SG at *
  generalize ErrC sc role d = EC at *
  generalize refsOk sc role d = RO at *
  generalize goodE (d.own role) sc = GE at *
  unfold Tb.val at hG hM hCp ⊢
  simp only [Tb.own] at hG hM hCp
  obtain ⟨c0, c1, c2, c3, z0, z1, z2, z3⟩ := aD.four
  obtain ⟨o0, o1, o2⟩ := hO1.at_.tri0
  cases hf : tabAt sc d.name with
  | some j =>
    have HX := Lib.hid (fun w' => HN.out 8 w' (by decide) (fun _ => (HE.out 8).2 (.inl ⟨by rw [hf]; simp, rfl⟩)))
    have hPc := hP W.drew (hin _ hO1.drew)
    rw [hf] at hPc
    simp only at hPc
    have hj0 : (0 : Int) ≤ (j : Int) := by omega
    clear HN HY HE hG hM hCp hP hf
    go_enter Tryz.func41, Tryz.ntmps41
    go_wp2_with fail
    rw [hWc.out]
    go_still_tail 5, (by kernel_rfl)
    change wpList _ _ _ _ _ W.drew
    go_wp2_with fail
    refine hPc.mono ?_
    rintro e w2 ⟨rfl, b2⟩
    have hb2 := below_inB hbB.drew b2 hBw
    go_wp2_with fail
    go_ret
    exact ⟨HX.out _, hb2⟩
  | none =>
    have HN2 := Lib.hid (fun (er : Int) (w' : World) (h0 : er ≠ 0) (h : SG → (GE ≠ 0 ∧ er = GE) ∨ (GE = 0 ∧ ((¬ RO ∧ er = 14) ∨ (RO ∧ ((12 ≤ L.length ∧ er = 3) ∨ (L.length < 12 ∧ er = 0)))))) => HN.out er w' h0 (fun sg => (HE.out er).2 (.inr ⟨hf, h sg⟩)))
    have HY2 := Lib.hid (fun (A2 : Option Addr) (c2 : Nat) (x : Tb) (w' : World) (h : SG → (GE ≠ 0 ∧ (0 : Int) = GE) ∨ (GE = 0 ∧ ((¬ RO ∧ (0 : Int) = 14) ∨ (RO ∧ ((12 ≤ L.length ∧ (0 : Int) = 3) ∨ (L.length < 12 ∧ (0 : Int) = 0)))))) (h1 : simT x (d.own role)) (h2 : OutS w' p B ver A2 c2 (L ++ [x]) A' c' gs) => HY.out A2 c2 x w' (fun sg => (HE.out 0).2 (.inr ⟨hf, h sg⟩)) h1 h2)
    have hPc := hP W.drew (hin _ hO1.drew)
    rw [hf] at hPc
    simp only at hPc
    clear HN HY HE hP hf
    go_enter Tryz.func41, Tryz.ntmps41
    go_wp2_with fail
    rw [hWc.out]
    go_still_tail 5, (by kernel_rfl)
    change wpList _ _ _ _ _ W.drew
    go_wp2_with fail
    refine hPc.mono ?_
    rintro e w2 ⟨rfl, b2⟩
    have hb2 := below_in hbx.drew b2
    have hO2 := hO.below hb2
    have aD2 := At.below (w := W.drew) aD b2 aD.lt
    obtain ⟨e0, e1, e2, e3, y0, y1, y2, y3⟩ := aD2.four
    obtain ⟨p0, p1, p2⟩ := hO2.at_.tri0
    have aD3 : At (w2.setCell ⟨w.heap.size, 1, none⟩ (.int .i64 role)) w.heap.size 32 #[.string ⟨d.name.toArray⟩, .int .i64 role, .slice d.cA d.cn d.ccap, .slice d.eA d.en d.ecap] := aD2.put 1 (.int .i64 role)
    have hb3 : Below w.heap.size w (w2.setCell ⟨w.heap.size, 1, none⟩ (.int .i64 role)) := hb2.setCell (p := ⟨w.heap.size, 1, none⟩) (Nat.le_refl _) _
    have hDO : ∀ w1, Below w.heap.size w w1 → InT w1 (d.own role) := fun w1 b => by
      have := hd.below b
      exact ⟨hrole, this.name, this.cmax, this.emax, this.cols, this.chk⟩
    clear aD aD2 hO1 hO2 hd1 o0 o1 o2 c0 c1 c2 c3 z0 z1 z2 z3 hPc hb2 hWc hd b2 hbx
    go_wp2_with fail
    generalize w2.setCell ⟨w.heap.size, 1, none⟩ (.int .i64 role) = W3 at *
    clear e0 e1 e2 e3 y0 y1 y2 y3 p0 p1 p2
    obtain ⟨e0, e1, e2, e3, y0, y1, y2, y3⟩ := aD3.four
    obtain ⟨p0, p1, p2⟩ := (hO.below hb3).at_.tri0
    have hGc := hG W3.drew (hin _ (hO.below hb3.drew)) (hDO _ hb3.drew)
    go_wp2_with fail
    go_still_tail 4, (by kernel_rfl)
    change wpList _ _ _ _ _ W3.drew
    go_wp2_with fail
    refine hGc.mono ?_
    rintro e w4 ⟨rfl, b4⟩
    have hb4 := below_in hb3.drew b4
    have aD4 := At.below (w := W3.drew) aD3 b4 aD3.lt
    clear e0 e1 e2 e3 y0 y1 y2 y3 p0 p1 p2 hGc hG aD3 b4 hb3
    by_cases hge : GE = 0
    · subst hge
      obtain ⟨e0, e1, e2, e3, y0, y1, y2, y3⟩ := aD4.four
      obtain ⟨p0, p1, p2⟩ := (hO.below hb4).at_.tri0
      have hMc := hM w4.drew (hin _ (hO.below hb4.drew)) (hDO _ hb4.drew)
      clear hM
      go_wp2_with fail
      go_still_tail 5, (by kernel_rfl)
      change wpList _ _ _ _ _ w4.drew
      go_wp2_with fail
      refine hMc.mono ?_
      rintro e w5 ⟨⟨Bo, rfl, hBo⟩, b5⟩
      have hb5 := below_in hb4.drew b5
      have aD5 := At.below (w := w4.drew) aD4 b5 aD4.lt
      clear e0 e1 e2 e3 y0 y1 y2 y3 p0 p1 p2 hMc aD4 b5 hb4
      obtain ⟨p0, p1, p2⟩ := (hO.below hb5).at_.tri0
      cases Bo with
      | false =>
        have HX := Lib.hid (fun w' => HN2.out 14 w' (by decide) (fun sg => .inr ⟨trivial, .inl ⟨fun ro => (by have := (hBo sg).2 ro; cases this), rfl⟩⟩))
        clear HN2 HY2 hBo
        go_wp2_with fail
        go_ret
        exact ⟨HX.out _, hb5.mono hBw⟩
      | true =>
        have HRO : Hid (SG → RO) := fun sg => (hBo sg).1 rfl
        clear hBo
        by_cases h12 : 12 ≤ L.length
        · have hcmp : (12 : Int) ≤ (L.length : Int) := by omega
          have HX := Lib.hid (fun w' => HN2.out 3 w' (by decide) (fun sg => .inr ⟨trivial, .inr ⟨HRO.out sg, .inl ⟨h12, rfl⟩⟩⟩))
          clear HN2 HY2 HRO
          go_wp2_with fail
          go_ret
          exact ⟨HX.out _, hb5.mono hBw⟩
        · have hcmp : ¬ (12 : Int) ≤ (L.length : Int) := by omega
          have HX := Lib.hid (fun A2 c2 x w' h1 h2 => HY2.out A2 c2 x w' (fun sg => .inr ⟨trivial, .inr ⟨HRO.out sg, .inr ⟨by omega, trivial⟩⟩⟩) h1 h2)
          clear HN2 HY2 HRO
          obtain ⟨e0, e1, e2, e3, y0, y1, y2, y3⟩ := aD5.four
          go_wp2_with fail
          obtain ⟨i0, hi0, hz0, hzs, hzb⟩ := info_parts info_table
          refine wp_region_held_drew (S := fun w' => At w' w.heap.size 32 #[.string ⟨d.name.toArray⟩, .int .i64 role, .slice d.cA d.cn d.ccap, .slice d.eA d.en d.ecap]) (by kernel_rfl) (show At w5.drew _ _ _ from aD5) (fun hS => ?_)
          refine take_at (i := 0) (v := ?_) rfl rfl (by kernel_rfl) (by kernel_rfl) (by kernel_rfl) (fun _ _ _ h => h) (by rfl) hS ?_ ?_
          rotate_left
          · intro w' hw
            go_simp
            try with_reducible rfl
          try simp only [List.setIfInBounds_toArray, List.set_cons_zero, List.set_cons_succ]
          refine take_at (i := 1) (v := ?_) rfl rfl (by kernel_rfl) (by kernel_rfl) (by kernel_rfl) (fun _ _ _ h => h) (by rfl) hS ?_ ?_
          rotate_left
          · intro w' hw
            go_simp
            try with_reducible rfl
          try simp only [List.setIfInBounds_toArray, List.set_cons_zero, List.set_cons_succ]
          refine take_at (i := 2) (v := ?_) rfl rfl (by kernel_rfl) (by kernel_rfl) (by kernel_rfl) (fun _ _ _ h => h) (by rfl) hS ?_ ?_
          rotate_left
          · intro w' hw
            go_simp
            try with_reducible rfl
          try simp only [List.setIfInBounds_toArray, List.set_cons_zero, List.set_cons_succ]
          refine take_at (i := 3) (v := ?_) rfl rfl (by kernel_rfl) (by kernel_rfl) (by kernel_rfl) (fun _ _ _ h => h) (by rfl) hS ?_ ?_
          rotate_left
          · intro w' hw
            go_simp
            try with_reducible rfl
          try simp only [List.setIfInBounds_toArray, List.set_cons_zero, List.set_cons_succ]
          refine take_at (i := 5) (v := ?_) rfl rfl (by kernel_rfl) (by kernel_rfl) (by kernel_rfl) (fun _ _ _ h => h) (by rfl) hS ?_ ?_
          rotate_left
          · intro w' hw
            have hw : At _ _ _ _ := hw
            obtain ⟨q0, q1, q2, q3, -⟩ := hw.four
            go_simp
            try with_reducible rfl
          try simp only [List.setIfInBounds_toArray, List.set_cons_zero, List.set_cons_succ]
          refine two_at (i := 4) (j := 6) rfl rfl (by kernel_rfl) (by rfl) (by rfl) (fun K hK => ?_) (fun K hK => ?_)
          · have r1 : w5.drew.cell? ⟨p, 1, none⟩ = some (.slice A L.length c) := p1
            go_simp
            refine hK.out _ _ hS (fun hS => ?_)
            clear hK K
            try simp only [Act.put, List.setIfInBounds_toArray, List.set_cons_zero, List.set_cons_succ]
            refine only_at (i := 6) rfl (by kernel_rfl) (by rfl) (fun K hK => ?_)
            go_simp
            refine (hCp w5.drew (hDO _ hb5.drew)).mono ?_
            rintro e w6 ⟨o, rfl, hKo, hso, b6⟩
            clear hS
            have hb6 := below_in hb5.drew b6
            have aD6 := At.below (w := w5.drew) aD5 b6 aD5.lt
            have hz6 := b6.size
            go_simp
            refine hK.out _ _ aD6 (fun hS => ?_)
            clear hK K
            try simp only [Act.put, List.setIfInBounds_toArray, List.set_cons_zero, List.set_cons_succ]
            refine only_at (i := 7) rfl (by kernel_rfl) (by rfl) (fun K hK => ?_)
            go_simp
            refine hK.out _ _ (aD6.alloc _) (fun hS => ?_)
            clear hK K
            try simp only [Act.put, List.setIfInBounds_toArray, List.set_cons_zero, List.set_cons_succ]
            have hb7 := hb6.alloc hb6.size (.cells #[.string ⟨o.name.toArray⟩, .int .i64 o.owner, .slice o.cA o.cn o.ccap, .slice o.eA o.en o.ecap] 32)
            have aO7 := At.fresh w6 32 #[.string ⟨o.name.toArray⟩, .int .i64 o.owner, .slice o.cA o.cn o.ccap, .slice o.eA o.en o.ecap]
            have hO7 := hO.below hb7
            have hK7 := KeepT.below hKo (below_box w6 (.cells #[.string ⟨o.name.toArray⟩, .int .i64 o.owner, .slice o.cA o.cn o.ccap, .slice o.eA o.en o.ecap] 32))
            have hz7 : (w6.alloc (.cells #[.string ⟨o.name.toArray⟩, .int .i64 o.owner, .slice o.cA o.cn o.ccap, .slice o.eA o.en o.ecap] 32)).heap.size = w6.heap.size + 1 := by simp
            generalize w6.alloc (.cells #[.string ⟨o.name.toArray⟩, .int .i64 o.owner, .slice o.cA o.cn o.ccap, .slice o.eA o.en o.ecap] 32) = W7 at *
            refine only_at (i := 8) rfl (by kernel_rfl) (by rfl) (fun K hK => ?_)
            refine wp_append_lies W7 (.tmp 42) (.tmp 45) 22 rfl B 32 i0 _ 4 72 Tryz.underlying22 hi0 hz0 hzs hzb rfl (by omega) (.slice A L.length c) L.length (L.flatMap Tb.cs) rfl hO7.own ⟨w6.heap.size, 0, none⟩ 1 1 #[.string ⟨o.name.toArray⟩, .int .i64 o.owner, .slice o.cA o.cn o.ccap, .slice o.eA o.en o.ecap].toList rfl rfl (fun j u hu => by rw [add_plain, Nat.zero_add, At.cell aO7]; simpa using hu) (fun u hu => by simp at hu; rcases hu with rfl | rfl | rfl | rfl <;> rfl) (by omega) (by unfold maxLen; omega) (by omega) hO7.base W7.heap.size rfl ?_
            intro g cap w8 ho8 hg8 hl8 hlt8
            have aD8 : At w8 w.heap.size 32 #[.string ⟨d.name.toArray⟩, .int .i64 role, .slice d.cA d.cn d.ccap, .slice d.eA d.en d.ecap] := At.grown hS hg8 (fun e => by have := (World.ownsRow.lt hO.own _ e.symm).2; omega)
            have hO9 := hO.app (by omega) hb7 hK7 (by show w.heap.size ≤ w5.heap.size; exact hb5.size) ho8 hg8 hl8
            have hb8 : Below B w w8 := (hb7.mono hBw).grown hg8 hO7.base (fun k e => (World.ownsRow.lt hO.own k e).1)
            have hb9 : Below B w (w8.setCell ⟨p, 1, none⟩ (.slice (some ⟨g, 0, none⟩) (L.length + 1) cap)) := hb8.setCell (p := ⟨p, 1, none⟩) hO.hp _
            have aP8 : At w8 p 25 #[.int .i64 ver, .slice A L.length c, .slice A' gs.length c'] := At.grown hO7.at_ hg8 (fun e => block_ne hO.own hO.at_ (by decide) e.symm)
            have f1 : w8.cell? ⟨p, 1, none⟩ = some (.slice A L.length c) := aP8.cell 1
            have f2 := aP8.unfrozen 1
            have aD9 := aD8.elsewhere (p := ⟨p, 1, none⟩) (show w.heap.size ≠ p by omega) (.slice (some ⟨g, 0, none⟩) (L.length + 1) cap)
            have HO9 := Lib.hid hO9
            clear hO9
            refine hK.out _ _ aD8 (fun hS => ?_)
            clear hK K
            try simp only [Act.put, List.setIfInBounds_toArray, List.set_cons_zero, List.set_cons_succ]
            refine only_at (i := 9) rfl (by kernel_rfl) (by rfl) (fun K hK => ?_)
            go_simp
            refine hK.out _ _ hS (fun hS => ?_)
            clear hK K
            try simp only [Act.put, List.setIfInBounds_toArray, List.set_cons_zero, List.set_cons_succ]
            refine only_at (i := 10) rfl (by kernel_rfl) (by rfl) (fun K hK => ?_)
            go_simp
            refine hK.out _ _ hS (fun hS => ?_)
            clear hK K
            try simp only [Act.put, List.setIfInBounds_toArray, List.set_cons_zero, List.set_cons_succ]
            refine only_at (i := 11) rfl (by kernel_rfl) (by rfl) (fun K hK => ?_)
            go_simp
            refine hK.out _ _ aD9 (fun hS => ?_)
            clear hK K
            try simp only [Act.put, List.setIfInBounds_toArray, List.set_cons_zero, List.set_cons_succ]
            refine wpAnyH_done (by kernel_rfl) ?_ _
            clear hS
            go_wp2_with fail
            go_ret
            exact ⟨HX.out _ _ o _ hso HO9.out, hb9⟩
          · go_simp
            refine (hCp w5.drew (hDO _ hb5.drew)).mono ?_
            rintro e w6 ⟨o, rfl, hKo, hso, b6⟩
            clear hS
            have hb6 := below_in hb5.drew b6
            have aD6 := At.below (w := w5.drew) aD5 b6 aD5.lt
            have hz6 := b6.size
            go_simp
            refine hK.out _ _ aD6 (fun hS => ?_)
            clear hK K
            try simp only [Act.put, List.setIfInBounds_toArray, List.set_cons_zero, List.set_cons_succ]
            have r1 : w6.cell? ⟨p, 1, none⟩ = some (.slice A L.length c) := (hO.below hb6).at_.cell 1
            refine two_at (i := 4) (j := 7) rfl rfl (by kernel_rfl) (by rfl) (by rfl) (fun K hK => ?_) (fun K hK => ?_)
            · go_simp
              refine hK.out _ _ hS (fun hS => ?_)
              clear hK K
              try simp only [Act.put, List.setIfInBounds_toArray, List.set_cons_zero, List.set_cons_succ]
              refine only_at (i := 7) rfl (by kernel_rfl) (by rfl) (fun K hK => ?_)
              go_simp
              refine hK.out _ _ (aD6.alloc _) (fun hS => ?_)
              clear hK K
              try simp only [Act.put, List.setIfInBounds_toArray, List.set_cons_zero, List.set_cons_succ]
              have hb7 := hb6.alloc hb6.size (.cells #[.string ⟨o.name.toArray⟩, .int .i64 o.owner, .slice o.cA o.cn o.ccap, .slice o.eA o.en o.ecap] 32)
              have aO7 := At.fresh w6 32 #[.string ⟨o.name.toArray⟩, .int .i64 o.owner, .slice o.cA o.cn o.ccap, .slice o.eA o.en o.ecap]
              have hO7 := hO.below hb7
              have hK7 := KeepT.below hKo (below_box w6 (.cells #[.string ⟨o.name.toArray⟩, .int .i64 o.owner, .slice o.cA o.cn o.ccap, .slice o.eA o.en o.ecap] 32))
              have hz7 : (w6.alloc (.cells #[.string ⟨o.name.toArray⟩, .int .i64 o.owner, .slice o.cA o.cn o.ccap, .slice o.eA o.en o.ecap] 32)).heap.size = w6.heap.size + 1 := by simp
              generalize w6.alloc (.cells #[.string ⟨o.name.toArray⟩, .int .i64 o.owner, .slice o.cA o.cn o.ccap, .slice o.eA o.en o.ecap] 32) = W7 at *
              refine only_at (i := 8) rfl (by kernel_rfl) (by rfl) (fun K hK => ?_)
              refine wp_append_lies W7 (.tmp 42) (.tmp 45) 22 rfl B 32 i0 _ 4 72 Tryz.underlying22 hi0 hz0 hzs hzb rfl (by omega) (.slice A L.length c) L.length (L.flatMap Tb.cs) rfl hO7.own ⟨w6.heap.size, 0, none⟩ 1 1 #[.string ⟨o.name.toArray⟩, .int .i64 o.owner, .slice o.cA o.cn o.ccap, .slice o.eA o.en o.ecap].toList rfl rfl (fun j u hu => by rw [add_plain, Nat.zero_add, At.cell aO7]; simpa using hu) (fun u hu => by simp at hu; rcases hu with rfl | rfl | rfl | rfl <;> rfl) (by omega) (by unfold maxLen; omega) (by omega) hO7.base W7.heap.size rfl ?_
              intro g cap w8 ho8 hg8 hl8 hlt8
              have aD8 : At w8 w.heap.size 32 #[.string ⟨d.name.toArray⟩, .int .i64 role, .slice d.cA d.cn d.ccap, .slice d.eA d.en d.ecap] := At.grown hS hg8 (fun e => by have := (World.ownsRow.lt hO.own _ e.symm).2; omega)
              have hO9 := hO.app (by omega) hb7 hK7 (by show w.heap.size ≤ w5.heap.size; exact hb5.size) ho8 hg8 hl8
              have hb8 : Below B w w8 := (hb7.mono hBw).grown hg8 hO7.base (fun k e => (World.ownsRow.lt hO.own k e).1)
              have hb9 : Below B w (w8.setCell ⟨p, 1, none⟩ (.slice (some ⟨g, 0, none⟩) (L.length + 1) cap)) := hb8.setCell (p := ⟨p, 1, none⟩) hO.hp _
              have aP8 : At w8 p 25 #[.int .i64 ver, .slice A L.length c, .slice A' gs.length c'] := At.grown hO7.at_ hg8 (fun e => block_ne hO.own hO.at_ (by decide) e.symm)
              have f1 : w8.cell? ⟨p, 1, none⟩ = some (.slice A L.length c) := aP8.cell 1
              have f2 := aP8.unfrozen 1
              have aD9 := aD8.elsewhere (p := ⟨p, 1, none⟩) (show w.heap.size ≠ p by omega) (.slice (some ⟨g, 0, none⟩) (L.length + 1) cap)
              have HO9 := Lib.hid hO9
              clear hO9
              refine hK.out _ _ aD8 (fun hS => ?_)
              clear hK K
              try simp only [Act.put, List.setIfInBounds_toArray, List.set_cons_zero, List.set_cons_succ]
              refine only_at (i := 9) rfl (by kernel_rfl) (by rfl) (fun K hK => ?_)
              go_simp
              refine hK.out _ _ hS (fun hS => ?_)
              clear hK K
              try simp only [Act.put, List.setIfInBounds_toArray, List.set_cons_zero, List.set_cons_succ]
              refine only_at (i := 10) rfl (by kernel_rfl) (by rfl) (fun K hK => ?_)
              go_simp
              refine hK.out _ _ hS (fun hS => ?_)
              clear hK K
              try simp only [Act.put, List.setIfInBounds_toArray, List.set_cons_zero, List.set_cons_succ]
              refine only_at (i := 11) rfl (by kernel_rfl) (by rfl) (fun K hK => ?_)
              go_simp
              refine hK.out _ _ aD9 (fun hS => ?_)
              clear hK K
              try simp only [Act.put, List.setIfInBounds_toArray, List.set_cons_zero, List.set_cons_succ]
              refine wpAnyH_done (by kernel_rfl) ?_ _
              clear hS
              go_wp2_with fail
              go_ret
              exact ⟨HX.out _ _ o _ hso HO9.out, hb9⟩
            · go_simp
              refine hK.out _ _ (aD6.alloc _) (fun hS => ?_)
              clear hK K
              try simp only [Act.put, List.setIfInBounds_toArray, List.set_cons_zero, List.set_cons_succ]
              have hb7 := hb6.alloc hb6.size (.cells #[.string ⟨o.name.toArray⟩, .int .i64 o.owner, .slice o.cA o.cn o.ccap, .slice o.eA o.en o.ecap] 32)
              have aO7 := At.fresh w6 32 #[.string ⟨o.name.toArray⟩, .int .i64 o.owner, .slice o.cA o.cn o.ccap, .slice o.eA o.en o.ecap]
              have hO7 := hO.below hb7
              have hK7 := KeepT.below hKo (below_box w6 (.cells #[.string ⟨o.name.toArray⟩, .int .i64 o.owner, .slice o.cA o.cn o.ccap, .slice o.eA o.en o.ecap] 32))
              have hz7 : (w6.alloc (.cells #[.string ⟨o.name.toArray⟩, .int .i64 o.owner, .slice o.cA o.cn o.ccap, .slice o.eA o.en o.ecap] 32)).heap.size = w6.heap.size + 1 := by simp
              generalize w6.alloc (.cells #[.string ⟨o.name.toArray⟩, .int .i64 o.owner, .slice o.cA o.cn o.ccap, .slice o.eA o.en o.ecap] 32) = W7 at *
              have r2 : W7.cell? ⟨p, 1, none⟩ = some (.slice A L.length c) := hO7.at_.cell 1
              refine only_at (i := 4) rfl (by kernel_rfl) (by rfl) (fun K hK => ?_)
              go_simp
              refine hK.out _ _ hS (fun hS => ?_)
              clear hK K
              try simp only [Act.put, List.setIfInBounds_toArray, List.set_cons_zero, List.set_cons_succ]
              refine only_at (i := 8) rfl (by kernel_rfl) (by rfl) (fun K hK => ?_)
              refine wp_append_lies W7 (.tmp 42) (.tmp 45) 22 rfl B 32 i0 _ 4 72 Tryz.underlying22 hi0 hz0 hzs hzb rfl (by omega) (.slice A L.length c) L.length (L.flatMap Tb.cs) rfl hO7.own ⟨w6.heap.size, 0, none⟩ 1 1 #[.string ⟨o.name.toArray⟩, .int .i64 o.owner, .slice o.cA o.cn o.ccap, .slice o.eA o.en o.ecap].toList rfl rfl (fun j u hu => by rw [add_plain, Nat.zero_add, At.cell aO7]; simpa using hu) (fun u hu => by simp at hu; rcases hu with rfl | rfl | rfl | rfl <;> rfl) (by omega) (by unfold maxLen; omega) (by omega) hO7.base W7.heap.size rfl ?_
              intro g cap w8 ho8 hg8 hl8 hlt8
              have aD8 : At w8 w.heap.size 32 #[.string ⟨d.name.toArray⟩, .int .i64 role, .slice d.cA d.cn d.ccap, .slice d.eA d.en d.ecap] := At.grown hS hg8 (fun e => by have := (World.ownsRow.lt hO.own _ e.symm).2; omega)
              have hO9 := hO.app (by omega) hb7 hK7 (by show w.heap.size ≤ w5.heap.size; exact hb5.size) ho8 hg8 hl8
              have hb8 : Below B w w8 := (hb7.mono hBw).grown hg8 hO7.base (fun k e => (World.ownsRow.lt hO.own k e).1)
              have hb9 : Below B w (w8.setCell ⟨p, 1, none⟩ (.slice (some ⟨g, 0, none⟩) (L.length + 1) cap)) := hb8.setCell (p := ⟨p, 1, none⟩) hO.hp _
              have aP8 : At w8 p 25 #[.int .i64 ver, .slice A L.length c, .slice A' gs.length c'] := At.grown hO7.at_ hg8 (fun e => block_ne hO.own hO.at_ (by decide) e.symm)
              have f1 : w8.cell? ⟨p, 1, none⟩ = some (.slice A L.length c) := aP8.cell 1
              have f2 := aP8.unfrozen 1
              have aD9 := aD8.elsewhere (p := ⟨p, 1, none⟩) (show w.heap.size ≠ p by omega) (.slice (some ⟨g, 0, none⟩) (L.length + 1) cap)
              have HO9 := Lib.hid hO9
              clear hO9
              refine hK.out _ _ aD8 (fun hS => ?_)
              clear hK K
              try simp only [Act.put, List.setIfInBounds_toArray, List.set_cons_zero, List.set_cons_succ]
              refine only_at (i := 9) rfl (by kernel_rfl) (by rfl) (fun K hK => ?_)
              go_simp
              refine hK.out _ _ hS (fun hS => ?_)
              clear hK K
              try simp only [Act.put, List.setIfInBounds_toArray, List.set_cons_zero, List.set_cons_succ]
              refine only_at (i := 10) rfl (by kernel_rfl) (by rfl) (fun K hK => ?_)
              go_simp
              refine hK.out _ _ hS (fun hS => ?_)
              clear hK K
              try simp only [Act.put, List.setIfInBounds_toArray, List.set_cons_zero, List.set_cons_succ]
              refine only_at (i := 11) rfl (by kernel_rfl) (by rfl) (fun K hK => ?_)
              go_simp
              refine hK.out _ _ aD9 (fun hS => ?_)
              clear hK K
              try simp only [Act.put, List.setIfInBounds_toArray, List.set_cons_zero, List.set_cons_succ]
              refine wpAnyH_done (by kernel_rfl) ?_ _
              clear hS
              go_wp2_with fail
              go_ret
              exact ⟨HX.out _ _ o _ hso HO9.out, hb9⟩
    · have HX := Lib.hid (fun w' => HN2.out GE w' hge (fun sg => .inl ⟨hge, rfl⟩))
      have hge2 : (GE != 0) = true := by simpa using hge
      clear HN2 HY2 hM
      go_wp2_with fail
      go_ret
      exact ⟨HX.out _, hb4.mono hBw⟩
end Go.Proofs.YtnhalfdddcjicaaGreat
