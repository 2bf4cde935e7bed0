/- The walks of regrant and change. -/
/- The walk of change. -/
import Derived.Test.YtnhalfdddcjicaaGreatQDdF
namespace Go.Proofs.YtnhalfdddcjicaaGreat
open Go.RowKit

/-- What is wrong first with grants that are to be changed; what they become. -/
def GiveR (put : Bool) (gs : List Gr) (g : Gr) (er : Int) (gs' : List Gr) : Prop := if put = true then PutR gs g er gs' else TakeR gs g er gs'
def RgR (p B : Nat) (ver : Int) (A : Option Addr) (c : Nat) (L : List Tb) (A' : Option Addr) (c' : Nat) (gs : List Gr) (role : Int) (g : Gr) (put : Bool) (e : Ending) (w' : World) : Prop :=
  (∃ er, e = .returned (.int .i64 er) ∧ er ≠ 0 ∧ ErrO (outSc ver A c L A' c' gs) role g.table er) ∨
  (∃ er gs', e = .returned (.int .i64 er) ∧ er ≠ 0 ∧ ErrO (outSc ver A c L A' c' gs) role g.table 0 ∧ GiveR put gs g er gs') ∨
  (∃ A3 c3 gs', e = .returned (.int .i64 0) ∧ ErrO (outSc ver A c L A' c' gs) role g.table 0 ∧ GiveR put gs g 0 gs' ∧ OutS w' p B ver A c L A3 c3 gs')

def fnG (put : Bool) : Value := if put = true then .func (.func 44) #[] #[] else .func (.func 45) #[] #[]
theorem fnG_any (put : Bool) (A : Option Addr) (n cap : Nat) (gs : List Gr) (g : Gr) (w : World) (hr : RowG w A n gs) (hn : n ≤ 1000) (hg : g.Ok) (f : Nat) (hf : fnG put = .func (.func f) #[] #[]) :
    Calls Tryz.prog f #[.slice A n cap, g.val] w fun e w' => (∃ v er gs', e = .returned (.tuple #[v, .int .i64 er]) ∧ w'.ownsRow w.heap.size 50 3 v gs'.length (gs'.flatMap Gr.cs) ∧ GiveR put gs g er gs') ∧ Below w.heap.size w w' := by
  cases put with
  | true =>
    injection hf with hf
    injection hf with hf
    subst hf
    exact gput_any A n cap gs g w hr hn hg
  | false =>
    injection hf with hf
    injection hf with hf
    subst hf
    exact gtake_any A n cap gs g w hr hn hg
theorem give_len {put : Bool} {gs gs' : List Gr} {g : Gr} {er : Int} (h : GiveR put gs g er gs') : gs'.length ≤ gs.length + 1 := by
  unfold GiveR at h
  cases put with
  | true =>
    rcases h with ⟨_, _, rfl⟩ | ⟨_, i, b, hp, ⟨_, _, _, rfl⟩ | ⟨_, _, _, rfl⟩ | ⟨_, _, rfl⟩⟩
    · simp
    · simp
    · simp; omega
    · simp
  | false =>
    rcases h with ⟨_, _, rfl⟩ | ⟨_, _, i, b, hp, ⟨_, rfl⟩ | ⟨_, _, rfl⟩ | ⟨_, _, rfl⟩⟩
    · simp
    · omega
    · simp
    · simp; omega
theorem an_i64 (a b : Int) : I64 (anI a b) := by
  show I64 (IntKind.i64.wrap _)
  exact i64_of_wf (wf_wrap .i64 _)
theorem or_i64 (a b : Int) : I64 (orI a b) := by
  show I64 (IntKind.i64.wrap _)
  exact i64_of_wf (wf_wrap .i64 _)
theorem set_ok {gs : List Gr} {i : Nat} {b : Int} (hi : i < gs.length) (hok : ∀ x ∈ gs, x.Ok) (hb : I64 b) : ∀ x ∈ gs.set i ⟨(atG gs i).role, (atG gs i).table, b⟩, x.Ok := fun x hx => by
  have h1 := hok _ (getD_in2 (l := gs) (k := i) hi)
  rcases List.mem_or_eq_of_mem_set hx with h | h
  · exact hok x h
  · rw [h]
    exact ⟨h1.role, hb, h1.table⟩
theorem give_ok {put : Bool} {gs gs' : List Gr} {g : Gr} {er : Int} (h : GiveR put gs g er gs') (hok : ∀ x ∈ gs, x.Ok) (hg : g.Ok) : ∀ x ∈ gs', x.Ok := by
  unfold GiveR at h
  cases put with
  | true =>
    rcases h with ⟨_, _, rfl⟩ | ⟨_, i, b, hp, ⟨_, _, _, rfl⟩ | ⟨_, _, _, rfl⟩ | ⟨rfl, _, rfl⟩⟩
    · exact fun x hx => by simp at hx
    · exact fun x hx => by simp at hx
    · intro x hx
      rcases List.mem_append.1 hx with hx | hx
      · exact hok x (List.mem_of_mem_take hx)
      · rcases List.mem_cons.1 hx with rfl | hx
        · exact hg
        · exact hok x (List.mem_of_mem_drop hx)
    · exact set_ok (hp.yes rfl).1 hok (or_i64 _ _)
  | false =>
    rcases h with ⟨_, _, rfl⟩ | ⟨_, _, i, b, hp, ⟨_, rfl⟩ | ⟨rfl, _, rfl⟩ | ⟨_, _, rfl⟩⟩
    · exact fun x hx => by simp at hx
    · exact hok
    · exact set_ok (hp.yes rfl).1 hok (an_i64 _ _)
    · intro x hx
      rcases List.mem_append.1 hx with hx | hx
      · exact hok x (List.mem_of_mem_take hx)
      · exact hok x (List.mem_of_mem_drop hx)

set_option maxRecDepth 100000 in
set_option maxHeartbeats 6400000 in
theorem regrant_any (p B : Nat) (ver : Int) (A : Option Addr) (c : Nat) (L : List Tb) (A' : Option Addr) (c' : Nat) (gs : List Gr) (role : Int) (g : Gr) (put : Bool) (F : Nat) (hF : fnG put = .func (.func F) #[] #[]) (w : World) (hO : OutS w p B ver A c L A' c' gs) (hg : g.Ok) (hn : gs.length ≤ 1000) :
    Calls Tryz.prog 43 #[.pointer (some ⟨p, 0, none⟩), .int .i64 role, g.val, .func (.func F) #[] #[]] w fun e w' => RgR p B ver A c L A' c' gs role g put e w' ∧ Below B w w' := by
  have HN1 : Hid (∀ er w', er ≠ 0 → ErrO (outSc ver A c L A' c' gs) role g.table er → RgR p B ver A c L A' c' gs role g put (.returned (.int .i64 er)) w') := by
    show ∀ _, _
    exact fun er w' h1 h2 => .inl ⟨er, rfl, h1, h2⟩
  have HN2 : Hid (∀ er w' gs', er ≠ 0 → ErrO (outSc ver A c L A' c' gs) role g.table 0 → GiveR put gs g er gs' → RgR p B ver A c L A' c' gs role g put (.returned (.int .i64 er)) w') := by
    show ∀ _, _
    exact fun er w' gs' h1 h2 h3 => .inr (.inl ⟨er, gs', rfl, h1, h2, h3⟩)
  have HY : Hid (∀ A3 c3 gs' w', ErrO (outSc ver A c L A' c' gs) role g.table 0 → GiveR put gs g 0 gs' → OutS w' p B ver A c L A3 c3 gs' → RgR p B ver A c L A' c' gs role g put (.returned (.int .i64 0)) w') := by
    show ∀ _, _
    exact fun A3 c3 gs' w' h1 h2 h3 => .inr (.inr ⟨A3, c3, gs', rfl, h1, h2, h3⟩)
  have hBw := hO.base
  have hpl := hO.lt
  have hOw := fun w1 (h : InS w1 (outSc ver A c L A' c' gs)) => owned_any (outSc ver A c L A' c' gs) role g.table w1 h
  have hCl := fun w1 (h : OutS w1 p B ver A c L A' c' gs) => fnG_any put A' gs.length c' gs g w1 h.rowG hn hg F hF
  have hin : ∀ w1, OutS w1 p B ver A c L A' c' gs → InS w1 (outSc ver A c L A' c' gs) := fun _ h => h.inS
  have hGL := @give_len put gs
  have hGO := @give_ok put gs
  have hgok := hO.gok
  rw [outSc_val] at hOw
  have hPF : (put = true ∧ F = 44) ∨ (put = false ∧ F = 45) := by
    cases put with
    | true => injection hF with hF; injection hF with hF; exact .inl ⟨rfl, hF.symm⟩
    | false => injection hF with hF; injection hF with hF; exact .inr ⟨rfl, hF.symm⟩
  clear hF
  generalize outSc ver A c L A' c' gs = sc at *
  generalize ErrO sc role g.table = EO at *
  generalize RgR p B ver A c L A' c' gs role g put = RR at *
  have hGL2 := Lib.hid (fun gs' er (h : GiveR put gs g er gs') => And.intro (hGL h) (hGO h hgok hg))
  generalize GiveR put gs g = GV at *
  clear hGL hGO
  obtain ⟨-, rfl⟩ | ⟨-, rfl⟩ := hPF
  all_goals
    have hbx := below_box w (.cells #[.int .i64 g.role, .string ⟨g.table.toArray⟩, .int .i64 g.bits] 50)
    have aG := At.fresh w 50 #[.int .i64 g.role, .string ⟨g.table.toArray⟩, .int .i64 g.bits]
    unfold Gr.val at hCl ⊢
    obtain ⟨W, hW⟩ : ∃ W, w.alloc (.cells #[.int .i64 g.role, .string ⟨g.table.toArray⟩, .int .i64 g.bits] 50) = W := ⟨_, rfl⟩
    rw [hW] at hbx aG
    have hWz : W.heap.size = w.heap.size + 1 := by rw [← hW]; simp
    have hWc := Lib.hid hW
    obtain ⟨g0, g1, g2⟩ := aG.tri0
    have hO1 := hO.below hbx
    obtain ⟨p0, p1, p2⟩ := hO1.at_.tri0
    have hOc := hOw W.drew (hin _ hO1.drew)
    clear hOw hW
    go_enter Tryz.func43, Tryz.ntmps43
    go_wp2_with fail
    rw [hWc.out]
    go_still_tail 6, (by kernel_rfl)
    change wpList _ _ _ _ _ W.drew
    go_wp2_with fail
    refine hOc.mono ?_
    rintro e w2 ⟨⟨er, rfl, hEr⟩, b2⟩
    have hb2 := below_in hbx.drew b2
    have aG2 := At.below (w := W.drew) aG b2 aG.lt
    clear hOc hWc g0 g1 g2 p0 p1 p2 hO1 aG hbx
    by_cases her : er = 0
    · subst her
      have HER := Lib.hid hEr
      have hO2 := hO.below hb2
      obtain ⟨g0, g1, g2⟩ := aG2.tri0
      obtain ⟨p0, p1, p2⟩ := hO2.at_.tri0
      have hCc := hCl w2.drew hO2.drew
      clear hEr HN1 hCl b2
      go_wp2_with fail
      refine wp_region_held_drew (S := fun w' => At w' p 25 #[.int .i64 ver, .slice A L.length c, .slice A' gs.length c'] ∧ At w' w.heap.size 50 #[.int .i64 g.role, .string ⟨g.table.toArray⟩, .int .i64 g.bits]) (by kernel_rfl) (⟨hO2.drew.at_, aG2⟩) (fun hS => ?_)
      refine take_at (i := 0) (v := ?_) rfl rfl (by kernel_rfl) (by kernel_rfl) (by kernel_rfl) (fun _ _ _ h => h) (by rfl) hS ?_ ?_
      rotate_left
      · intro w' hw
        obtain ⟨hs1, hs2⟩ := hw
        obtain ⟨e0, e1, e2⟩ := hs1.tri0
        obtain ⟨f0, f1, f2⟩ := hs2.tri0
        go_simp
        try with_reducible rfl
      try simp only [List.setIfInBounds_toArray, List.set_cons_zero, List.set_cons_succ]
      refine take_at (i := 1) (v := ?_) rfl rfl (by kernel_rfl) (by kernel_rfl) (by kernel_rfl) (fun _ _ _ h => h) (by rfl) hS ?_ ?_
      rotate_left
      · intro w' hw
        obtain ⟨hs1, hs2⟩ := hw
        obtain ⟨e0, e1, e2⟩ := hs1.tri0
        obtain ⟨f0, f1, f2⟩ := hs2.tri0
        go_simp
        try with_reducible rfl
      try simp only [List.setIfInBounds_toArray, List.set_cons_zero, List.set_cons_succ]
      refine take_at (i := 2) (v := ?_) rfl rfl (by kernel_rfl) (by kernel_rfl) (by kernel_rfl) (fun _ _ _ h => h) (by rfl) hS ?_ ?_
      rotate_left
      · intro w' hw
        obtain ⟨hs1, hs2⟩ := hw
        obtain ⟨e0, e1, e2⟩ := hs1.tri0
        obtain ⟨f0, f1, f2⟩ := hs2.tri0
        go_simp
        try with_reducible rfl
      try simp only [List.setIfInBounds_toArray, List.set_cons_zero, List.set_cons_succ]
      refine take_at (i := 3) (v := ?_) rfl rfl (by kernel_rfl) (by kernel_rfl) (by kernel_rfl) (fun _ _ _ h => h) (by rfl) hS ?_ ?_
      rotate_left
      · intro w' hw
        obtain ⟨hs1, hs2⟩ := hw
        obtain ⟨e0, e1, e2⟩ := hs1.tri0
        obtain ⟨f0, f1, f2⟩ := hs2.tri0
        go_simp
        try with_reducible rfl
      try simp only [List.setIfInBounds_toArray, List.set_cons_zero, List.set_cons_succ]
      refine take_at (i := 4) (v := ?_) rfl rfl (by kernel_rfl) (by kernel_rfl) (by kernel_rfl) (fun _ _ _ h => h) (by rfl) hS ?_ ?_
      rotate_left
      · intro w' hw
        obtain ⟨hs1, hs2⟩ := hw
        obtain ⟨e0, e1, e2⟩ := hs1.tri0
        obtain ⟨f0, f1, f2⟩ := hs2.tri0
        go_simp
        try with_reducible rfl
      try simp only [List.setIfInBounds_toArray, List.set_cons_zero, List.set_cons_succ]
      refine take_at (i := 5) (v := ?_) rfl rfl (by kernel_rfl) (by kernel_rfl) (by kernel_rfl) (fun _ _ _ h => h) (by rfl) hS ?_ ?_
      rotate_left
      · intro w' hw
        obtain ⟨hs1, hs2⟩ := hw
        obtain ⟨e0, e1, e2⟩ := hs1.tri0
        obtain ⟨f0, f1, f2⟩ := hs2.tri0
        go_simp
        try with_reducible rfl
      try simp only [List.setIfInBounds_toArray, List.set_cons_zero, List.set_cons_succ]
      refine only_at (i := 6) rfl (by kernel_rfl) (by rfl) (fun K hK => ?_)
      go_simp
      refine (hCc).mono ?_
      rintro e w3 ⟨⟨gv, er, gs', rfl, hgo, hgr⟩, b3⟩
      clear hS
      have hb3 := below_in hb2.drew b3
      have aP3 := (hO.below hb3).at_
      have aG3 := At.below (w := w2.drew) aG2 b3 aG2.lt
      obtain ⟨k1, k2⟩ := hGL2.out gs' er hgr
      obtain ⟨A3, c3, rfl, -, -⟩ := own_rowG hgo k2
      go_simp
      refine hK.out _ _ (⟨aP3, aG3⟩) (fun hS => ?_)
      clear hK K
      try simp only [Act.put, List.setIfInBounds_toArray, List.set_cons_zero, List.set_cons_succ]
      refine take_at (i := 7) (v := ?_) rfl rfl (by kernel_rfl) (by kernel_rfl) (by kernel_rfl) (fun _ _ _ h => h) (by rfl) hS ?_ ?_
      rotate_left
      · intro w' hw
        obtain ⟨hs1, hs2⟩ := hw
        obtain ⟨e0, e1, e2⟩ := hs1.tri0
        obtain ⟨f0, f1, f2⟩ := hs2.tri0
        go_simp
        try with_reducible rfl
      try simp only [List.setIfInBounds_toArray, List.set_cons_zero, List.set_cons_succ]
      refine take_at (i := 8) (v := ?_) rfl rfl (by kernel_rfl) (by kernel_rfl) (by kernel_rfl) (fun _ _ _ h => h) (by rfl) hS ?_ ?_
      rotate_left
      · intro w' hw
        obtain ⟨hs1, hs2⟩ := hw
        obtain ⟨e0, e1, e2⟩ := hs1.tri0
        obtain ⟨f0, f1, f2⟩ := hs2.tri0
        go_simp
        try with_reducible rfl
      try simp only [List.setIfInBounds_toArray, List.set_cons_zero, List.set_cons_succ]
      refine take_at (i := 9) (v := ?_) rfl rfl (by kernel_rfl) (by kernel_rfl) (by kernel_rfl) (fun _ _ _ h => h) (by rfl) hS ?_ ?_
      rotate_left
      · intro w' hw
        obtain ⟨hs1, hs2⟩ := hw
        obtain ⟨e0, e1, e2⟩ := hs1.tri0
        obtain ⟨f0, f1, f2⟩ := hs2.tri0
        go_simp
        try with_reducible rfl
      try simp only [List.setIfInBounds_toArray, List.set_cons_zero, List.set_cons_succ]
      refine take_at (i := 10) (v := ?_) rfl rfl (by kernel_rfl) (by kernel_rfl) (by kernel_rfl) (fun _ _ _ h => h) (by rfl) hS ?_ ?_
      rotate_left
      · intro w' hw
        obtain ⟨hs1, hs2⟩ := hw
        obtain ⟨e0, e1, e2⟩ := hs1.tri0
        obtain ⟨f0, f1, f2⟩ := hs2.tri0
        go_simp
        try with_reducible rfl
      try simp only [List.setIfInBounds_toArray, List.set_cons_zero, List.set_cons_succ]
      refine take_at (i := 11) (v := ?_) rfl rfl (by kernel_rfl) (by kernel_rfl) (by kernel_rfl) (fun _ _ _ h => h) (by rfl) hS ?_ ?_
      rotate_left
      · intro w' hw
        obtain ⟨hs1, hs2⟩ := hw
        obtain ⟨e0, e1, e2⟩ := hs1.tri0
        obtain ⟨f0, f1, f2⟩ := hs2.tri0
        go_simp
        try with_reducible rfl
      try simp only [List.setIfInBounds_toArray, List.set_cons_zero, List.set_cons_succ]
      refine wpAnyH_done (by kernel_rfl) ?_ _
      clear hS
      clear hCc g0 g1 g2 p0 p1 p2 aG2 hGL2
      by_cases her : er = 0
      · subst her
        have hO3 := hO.below hb3
        have hO4 := hO2.drew.grants b3 (by omega) k2 (own_mono hgo hO2.drew.base) (fun e => by have := (World.ownsRow.lt hgo p e).1; have := hO2.drew.lt; omega)
        have hb4 : Below B w (w3.setCell ⟨p, 2, none⟩ (.slice A3 gs'.length c3)) := (hb3.mono hBw).setCell (p := ⟨p, 2, none⟩) hO.hp _
        have f1 : w3.cell? ⟨p, 2, none⟩ = some (.slice A' gs.length c') := hO3.at_.cell 2
        have f2 := hO3.at_.unfrozen 2
        have HX := Lib.hid (HY.out A3 c3 gs' _ HER.out hgr hO4)
        clear HN2 HY hgr hO4 hO3 hO2 hgo
        go_wp2_with fail
        go_ret
        exact ⟨HX.out, hb4⟩
      · have HX := Lib.hid (fun w' => HN2.out er w' gs' her HER.out hgr)
        have her2 : (er != 0) = true := by simpa using her
        clear HN2 HY hgr hgo hO2
        go_wp2_with fail
        go_ret
        exact ⟨HX.out _, hb3.mono hBw⟩
    · have HX := Lib.hid (fun w' => HN1.out er w' her hEr)
      have her2 : (er != 0) = true := by simpa using her
      clear HN1 HN2 HY hEr hCl hGL2
      go_wp2_with fail
      go_ret
      exact ⟨HX.out _, hb2.mono hBw⟩
end Go.Proofs.YtnhalfdddcjicaaGreat

namespace Go.Proofs.YtnhalfdddcjicaaGreat
open Go.RowKit

def St.gr (st : St) : Gr := ⟨st.role, st.table, st.bits⟩
def ChR (p B : Nat) (ver : Int) (A : Option Addr) (c : Nat) (L : List Tb) (A' : Option Addr) (c' : Nat) (gs : List Gr) (role : Int) (st : St) (e : Ending) (w' : World) : Prop :=
  (st.kind = 6 ∧ CrR p B ver A c L A' c' gs role st.def_ e w') ∨ (st.kind = 7 ∧ DrR p B ver A c L A' c' gs role st.table e w') ∨
  (st.kind = 8 ∧ RgR p B ver A c L A' c' gs role st.gr true e w') ∨ (st.kind ≠ 6 ∧ st.kind ≠ 7 ∧ st.kind ≠ 8 ∧ RgR p B ver A c L A' c' gs role st.gr false e w')

section
variable {p B : Nat} {ver : Int} {A : Option Addr} {c : Nat} {L : List Tb} {A' : Option Addr} {c' : Nat} {gs : List Gr} {role : Int} {e : Ending} {w' : World}
theorem CrR.ret {d : Tb} (h : CrR p B ver A c L A' c' gs role d e w') : ∃ er, e = .returned (.int .i64 er) := by
  rcases h with ⟨er, h, _⟩ | ⟨_, _, _, h, _⟩
  · exact ⟨er, h⟩
  · exact ⟨0, h⟩
theorem DrR.ret {x : List UInt8} (h : DrR p B ver A c L A' c' gs role x e w') : ∃ er, e = .returned (.int .i64 er) := by
  rcases h with ⟨er, h, _⟩ | ⟨_, _, _, _, _, h, _⟩
  · exact ⟨er, h⟩
  · exact ⟨0, h⟩
theorem RgR.ret {g : Gr} {put : Bool} (h : RgR p B ver A c L A' c' gs role g put e w') : ∃ er, e = .returned (.int .i64 er) := by
  rcases h with ⟨er, h, _⟩ | ⟨er, _, h, _⟩ | ⟨_, _, _, h, _⟩
  · exact ⟨er, h⟩
  · exact ⟨er, h⟩
  · exact ⟨0, h⟩
end

set_option maxRecDepth 100000 in
set_option maxHeartbeats 6400000 in
theorem change_any (p B : Nat) (ver : Int) (A : Option Addr) (c : Nat) (L : List Tb) (A' : Option Addr) (c' : Nat) (gs : List Gr) (role : Int) (st : St) (w : World) (hO : OutS w p B ver A c L A' c' gs) (hst : InSt w st) (hrole : I64 role) (hwd : wtT st.def_ ≤ 1048573) (hw : wtS (outSc ver A c L A' c' gs) ≤ 1048576) (hn : L.length ≤ 1000 ∧ gs.length ≤ 1000) :
    Calls Tryz.prog 23 #[.pointer (some ⟨p, 0, none⟩), .int .i64 role, st.val] w fun e w' => ChR p B ver A c L A' c' gs role st e w' ∧ Below B w w' := by
  have hBw := hO.base
  have hbx := below_box w (.cells st.cells 34)
  have aT := At.fresh w 34 st.cells
  obtain ⟨W, hW⟩ : ∃ W, w.alloc (.cells st.cells 34) = W := ⟨_, rfl⟩
  rw [hW] at hbx aT
  have hWz : W.heap.size = w.heap.size + 1 := by rw [← hW]; simp
  have hgx := below_box W (.cells #[.int .i64 st.role, .string ⟨st.table.toArray⟩, .int .i64 st.bits] 50)
  have aG := At.fresh W 50 #[.int .i64 st.role, .string ⟨st.table.toArray⟩, .int .i64 st.bits]
  have aT2 := aT.below hgx aT.lt
  have hb2 := below_in hbx hgx
  obtain ⟨W2, hW2⟩ : ∃ W2, W.alloc (.cells #[.int .i64 st.role, .string ⟨st.table.toArray⟩, .int .i64 st.bits] 50) = W2 := ⟨_, rfl⟩
  rw [hW2] at aG aT2 hb2
  rw [hWz] at aG
  clear hgx
  have hO2 := hO.below hb2
  have hst2 := hst.below hb2
  have hCr := (create_any p B ver A c L A' c' gs role st.def_ W2 hO2 hst2.def_ hwd hrole).mono fun e w' h => (⟨h.1.ret, h⟩ : _ ∧ _)
  have hDr := (drop_any p B ver A c L A' c' gs role st.table W2 hO2 hw hn).mono fun e w' h => (⟨h.1.ret, h⟩ : _ ∧ _)
  have hRg := fun put F hF => (regrant_any p B ver A c L A' c' gs role st.gr put F hF W2 hO2 ⟨hst2.role, hst2.bits, hst2.table⟩ hn.2).mono fun e w' h => (⟨h.1.ret, h⟩ : _ ∧ _)
  have hR1 := hRg true 44 rfl
  have hR2 := hRg false 45 rfl
  have hB2 : ∀ w', Below B W2 w' → Below B w w' := fun w' h => (hb2.mono hBw).trans h
  have H6 : Hid (∀ e w', st.kind = 6 → CrR p B ver A c L A' c' gs role st.def_ e w' → ChR p B ver A c L A' c' gs role st e w') := by
    show ∀ _, _
    exact fun e w' h1 h2 => .inl ⟨h1, h2⟩
  have H7 : Hid (∀ e w', st.kind = 7 → DrR p B ver A c L A' c' gs role st.table e w' → ChR p B ver A c L A' c' gs role st e w') := by
    show ∀ _, _
    exact fun e w' h1 h2 => .inr (.inl ⟨h1, h2⟩)
  have H8 : Hid (∀ e w', st.kind = 8 → RgR p B ver A c L A' c' gs role st.gr true e w' → ChR p B ver A c L A' c' gs role st e w') := by
    show ∀ _, _
    exact fun e w' h1 h2 => .inr (.inr (.inl ⟨h1, h2⟩))
  have H9 : Hid (∀ e w', st.kind ≠ 6 → st.kind ≠ 7 → st.kind ≠ 8 → RgR p B ver A c L A' c' gs role st.gr false e w' → ChR p B ver A c L A' c' gs role st e w') := by
    show ∀ _, _
    exact fun e w' h1 h2 h3 h4 => .inr (.inr (.inr ⟨h1, h2, h3, h4⟩))
  obtain ⟨d0, d1, -, -, -, -, -, -, -, -, -, -, -, d13, d14, d15, d16, d17, d18⟩ := aT2.stmt
  obtain ⟨-, e1, -, -, -, -, -, -, -, -, -, -, -, -, -, -, -, e17, e18⟩ := aT.stmt
  obtain ⟨g0, g1, g2⟩ := aG.tri0
  clear hRg aT aT2 aG hO2 hst2 hbx hst
  subst hW2
  subst hW
  unfold St.val
  unfold Tb.val at hCr
  unfold Gr.val at hR1 hR2
  simp only [St.gr] at hR1 hR2 H8 H9
  generalize ChR p B ver A c L A' c' gs role st = CH at *
  generalize CrR p B ver A c L A' c' gs role st.def_ = CR at *
  generalize DrR p B ver A c L A' c' gs role st.table = DR at *
  generalize RgR p B ver A c L A' c' gs role ⟨st.role, st.table, st.bits⟩ true = R8 at *
  generalize RgR p B ver A c L A' c' gs role ⟨st.role, st.table, st.bits⟩ false = R9 at *
  generalize st.kind = kd at *
  generalize st.cells = cs at *
  go_enter Tryz.func23, Tryz.ntmps23
  by_cases k6 : kd = 6
  · subst k6
    go_wp2_with fail
    refine hCr.mono ?_
    rintro e w3 ⟨⟨er, rfl⟩, h, b⟩
    have HX := Lib.hid (H6.out _ _ trivial h)
    have hb3 := hB2 _ b
    clear h b hCr hDr hR1 hR2 hB2 H6 H7 H8 H9
    go_wp2_with fail
    go_ret
    exact ⟨HX.out, hb3⟩
  have n6 : (kd == 6) = false := by simpa using k6
  by_cases k7 : kd = 7
  · subst k7
    go_wp2_with fail
    refine hDr.mono ?_
    rintro e w3 ⟨⟨er, rfl⟩, h, b⟩
    have HX := Lib.hid (H7.out _ _ trivial h)
    have hb3 := hB2 _ b
    clear h b hCr hDr hR1 hR2 hB2 H6 H7 H8 H9
    go_wp2_with fail
    go_ret
    exact ⟨HX.out, hb3⟩
  have n7 : (kd == 7) = false := by simpa using k7
  by_cases k8 : kd = 8
  · subst k8
    go_wp2_with fail
    refine hR1.mono ?_
    rintro e w3 ⟨⟨er, rfl⟩, h, b⟩
    have HX := Lib.hid (H8.out _ _ trivial h)
    have hb3 := hB2 _ b
    clear h b hCr hDr hR1 hR2 hB2 H6 H7 H8 H9
    go_wp2_with fail
    go_ret
    exact ⟨HX.out, hb3⟩
  have n8 : (kd == 8) = false := by simpa using k8
  go_wp2_with fail
  refine hR2.mono ?_
  rintro e w3 ⟨⟨er, rfl⟩, h, b⟩
  have HX := Lib.hid (H9.out _ _ k6 k7 k8 h)
  have hb3 := hB2 _ b
  clear h b hCr hDr hR1 hR2 hB2 H6 H7 H8 H9
  go_wp2_with fail
  go_ret
  exact ⟨HX.out, hb3⟩
end Go.Proofs.YtnhalfdddcjicaaGreat
