/- The walk of the law PackReads. -/
import Derived.Test.YtlheijpfmihhaaaRefS
import Derived.Test.YtlheijpfmihhaaaPackH
import Derived.Test.YtlheijpfmihhaaaPackCuts
namespace Go.Proofs.Ytlheijpfmihhaaa
open Go.RowKit

/-- A reader and a reference's reader of the bytes l that stand at one place. -/
def Same (l rest : List UInt8) (f : Bool) (p : Nat) (bad : Bool) : Prop :=
  p ≤ l.length ∧ l.length ≤ 1000000 ∧ (f = false ∧ bad = false ∧ rest = l.drop p ∨ f = true ∧ bad = true ∧ rest = [])

theorem Same.restLe {l rest : List UInt8} {f : Bool} {p : Nat} {bad : Bool} (h : Same l rest f p bad) : rest.length ≤ maxLen := by
  unfold maxLen
  rcases h.2.2 with ⟨_, _, rfl⟩ | ⟨_, _, rfl⟩
  · simp; have := h.2.1; omega
  · simp

/-- Both answer v, and stand at one place again. -/
def Pair (F G : FuncId) (xs ys : Array Value) (br m : Nat) (l rest : List UInt8) (f : Bool) (p : Nat) (bad : Bool) (v : Value) (rest' : List UInt8) (f' : Bool) (p' : Nat) (bad' : Bool) : Prop :=
  Same l rest' f' p' bad' ∧
  (∀ w, Rd w br rest f → Calls Try.prog F xs w fun e w' => e = .returned v ∧ Rd w' br rest' f' ∧ w.grownBy w' (some br)) ∧
  (∀ w, Rf w m l p bad → Calls Try.prog G ys w fun e w' => e = .returned v ∧ Rf w' m l p' bad' ∧ w.grownBy w' (some m))

theorem same_next {l : List UInt8} {p u k : Nat} (hl : l.length ≤ 1000000) (hp : p ≤ l.length) (hg : grp 0 0 (l.drop p) = some (u, k)) : p + k ≤ l.length ∧ Same l ((l.drop p).drop k) false (p + k) false := by
  obtain ⟨_, h2, _⟩ := grp_ok _ 0 0 u k (by omega) (by simp) hg
  have h3 : p + k ≤ l.length := by simp at h2; omega
  exact ⟨h3, h3, hl, .inl ⟨rfl, rfl, by rw [List.drop_drop]⟩⟩

theorem int_pair (br m : Nat) (l rest : List UInt8) (f : Bool) (p : Nat) (bad : Bool) (h : Same l rest f p bad) :
    ∃ n rest' f' p' bad', Pair 17 18 #[.pointer (some ⟨br, 0, none⟩)] #[.pointer (some ⟨m, 0, none⟩)] br m l rest f p bad (.int .i64 n) rest' f' p' bad' := by
  have hle := h.restLe
  obtain ⟨hp, hl, ⟨rfl, rfl, rfl⟩ | ⟨rfl, rfl, rfl⟩⟩ := h
  · cases hg : grp 0 0 (l.drop p) with
    | none => exact ⟨0, [], true, p, true, ⟨hp, hl, .inr ⟨rfl, rfl, rfl⟩⟩, fun w hr => rint_none br _ _ w hr hle hg, fun w hr => rf_none m l p w hr hl hp hg⟩
    | some uk =>
      obtain ⟨u, k⟩ := uk
      exact ⟨unzig u, _, false, p + k, false, (same_next hl hp hg).2, fun w hr => rint_some br _ _ w hr hle u k hg, fun w hr => rf_some m l p w hr hl hp u k _ hg rfl⟩
  · refine ⟨0, [], true, p, true, ⟨hp, hl, .inr ⟨rfl, rfl, rfl⟩⟩, fun w hr => rint_none br _ _ w hr hle (grp_nil 0 0), fun w hr => (rf_bad m l p w hr).mono ?_⟩
    rintro e w' ⟨rfl, rfl⟩
    exact ⟨rfl, hr, World.grownBy.refl _ _⟩

theorem str_pair (br m : Nat) (l rest : List UInt8) (f : Bool) (p : Nat) (bad : Bool) (h : Same l rest f p bad) :
    ∃ s rest' f' p' bad', Pair 19 20 #[.pointer (some ⟨br, 0, none⟩)] #[.pointer (some ⟨m, 0, none⟩)] br m l rest f p bad (.string ⟨List.toArray s⟩) rest' f' p' bad' ∧ (bad' = true → s = []) := by
  have hle := h.restLe
  obtain ⟨hp, hl, ⟨rfl, rfl, rfl⟩ | ⟨rfl, rfl, rfl⟩⟩ := h
  · cases hg : grp 0 0 (l.drop p) with
    | none => exact ⟨[], [], true, p, true, ⟨⟨hp, hl, .inr ⟨rfl, rfl, rfl⟩⟩, fun w hr => rstr_none br _ _ w hr hle hg, fun w hr => rfs_none m l p w hr hl hp hg⟩, fun _ => rfl⟩
    | some uk =>
      obtain ⟨u, k⟩ := uk
      obtain ⟨hpk, hs⟩ := same_next hl hp hg
      have hdl : ((l.drop p).drop k).length = l.length - (p + k) := by rw [List.drop_drop, List.length_drop]
      by_cases hbad : unzig u < 0 ∨ (((l.drop p).drop k).length : Int) < unzig u
      · exact ⟨[], [], true, p + k, true, ⟨⟨hpk, hl, .inr ⟨rfl, rfl, rfl⟩⟩, fun w hr => rstr_bad br _ _ w hr hle u k hg hbad, fun w hr => rfs_out m l p (p + k) w hr hl hp u k _ hg rfl rfl hpk (by omega)⟩, fun _ => rfl⟩
      · obtain ⟨n, hn⟩ := Int.eq_ofNat_of_zero_le (show 0 ≤ unzig u by omega)
        refine ⟨((l.drop p).drop k).take n, ((l.drop p).drop k).drop n, false, p + k + n, false, ⟨⟨by omega, hl, .inl ⟨rfl, rfl, by rw [List.drop_drop, List.drop_drop, Nat.add_assoc]⟩⟩, fun w hr => rstr_ok br _ _ _ w hr hle u k n hg rfl hn (by omega), fun w hr => ?_⟩, fun h => by cases h⟩
        rw [List.drop_drop]
        exact rfs_ok m l p (p + k) w hr hl hp u k n hg hn rfl (by omega)
  · exact ⟨[], [], true, p, true, ⟨⟨hp, hl, .inr ⟨rfl, rfl, rfl⟩⟩, fun w hr => rstr_none br _ _ w hr hle (grp_nil 0 0), fun w hr => rfs_bad m l p w hr⟩, fun _ => rfl⟩

theorem bool_pair (br m : Nat) (l rest : List UInt8) (f : Bool) (p : Nat) (bad : Bool) (h : Same l rest f p bad) :
    ∃ x rest' f' p' bad', Pair 21 22 #[.pointer (some ⟨br, 0, none⟩)] #[.pointer (some ⟨m, 0, none⟩)] br m l rest f p bad (.bool x) rest' f' p' bad' := by
  have hle := h.restLe
  obtain ⟨hp, hl, ⟨rfl, rfl, rfl⟩ | ⟨rfl, rfl, rfl⟩⟩ := h
  · cases hg : grp 0 0 (l.drop p) with
    | none => exact ⟨false, [], true, p, true, ⟨hp, hl, .inr ⟨rfl, rfl, rfl⟩⟩, fun w hr => rbool_none br _ _ w hr hle hg, fun w hr => rfb_none m l p w hr hl hp hg⟩
    | some uk =>
      obtain ⟨u, k⟩ := uk
      obtain ⟨hpk, hs⟩ := same_next hl hp hg
      by_cases h0 : unzig u = 0
      · exact ⟨false, _, false, p + k, false, hs, fun w hr => rbool_ok br _ _ false w hr hle u k hg h0, fun w hr => rfb_ok m l p w hr hl hp u k false hg h0⟩
      by_cases h1 : unzig u = 1
      · exact ⟨true, _, false, p + k, false, hs, fun w hr => rbool_ok br _ _ true w hr hle u k hg h1, fun w hr => rfb_ok m l p w hr hl hp u k true hg h1⟩
      · exact ⟨false, [], true, p + k, true, ⟨hpk, hl, .inr ⟨rfl, rfl, rfl⟩⟩, fun w hr => rbool_bad br _ _ w hr hle u k hg h0 h1, fun w hr => rfb_out m l p w hr hl hp u k _ hg rfl h0 h1⟩
  · exact ⟨false, [], true, p, true, ⟨hp, hl, .inr ⟨rfl, rfl, rfl⟩⟩, fun w hr => rbool_none br _ _ w hr hle (grp_nil 0 0), fun w hr => rfb_bad m l p w hr⟩

theorem many_pair (br m : Nat) (bd : Int) (l rest : List UInt8) (f : Bool) (p : Nat) (bad : Bool) (h : Same l rest f p bad) :
    ∃ n rest' f' p' bad', Pair 23 24 #[.pointer (some ⟨br, 0, none⟩), .int .i64 bd] #[.pointer (some ⟨m, 0, none⟩), .int .i64 bd] br m l rest f p bad (.int .i64 n) rest' f' p' bad' := by
  have hle := h.restLe
  obtain ⟨hp, hl, ⟨rfl, rfl, rfl⟩ | ⟨rfl, rfl, rfl⟩⟩ := h
  · cases hg : grp 0 0 (l.drop p) with
    | none => exact ⟨0, [], true, p, true, ⟨hp, hl, .inr ⟨rfl, rfl, rfl⟩⟩, fun w hr => rmany_none br _ _ bd w hr hle hg, fun w hr => rfm_none m l p bd w hr hl hp hg⟩
    | some uk =>
      obtain ⟨u, k⟩ := uk
      obtain ⟨hpk, hs⟩ := same_next hl hp hg
      have hdl : ((l.drop p).drop k).length = l.length - (p + k) := by rw [List.drop_drop, List.length_drop]
      by_cases hbad : unzig u < 0 ∨ bd < unzig u ∨ (((l.drop p).drop k).length : Int) < unzig u
      · exact ⟨0, [], true, p + k, true, ⟨hpk, hl, .inr ⟨rfl, rfl, rfl⟩⟩, fun w hr => rmany_bad br _ _ bd w hr hle u k hg hbad, fun w hr => rfm_out m l p (p + k) bd w hr hl hp u k _ hg rfl rfl hpk (by omega)⟩
      · exact ⟨unzig u, _, false, p + k, false, hs, fun w hr => rmany_ok br _ _ _ bd _ w hr hle u k hg rfl rfl (by omega) (by omega) (by omega), fun w hr => rfm_ok m l p (p + k) bd w hr hl hp u k _ hg rfl rfl hpk (by omega) (by omega) (by omega)⟩
  · exact ⟨0, [], true, p, true, ⟨hp, hl, .inr ⟨rfl, rfl, rfl⟩⟩, fun w hr => rmany_none br _ _ bd w hr hle (grp_nil 0 0), fun w hr => rfm_bad m l p bd w hr hl hp⟩

/-- What the law looks at behind each question: three ways. -/
theorem Same.ways {l rest : List UInt8} {f : Bool} {p : Nat} {bad : Bool} (h : Same l rest f p bad) :
    (bad = true ∧ endOf rest f = 4) ∨ (bad = false ∧ p = l.length ∧ endOf rest f = 0) ∨ (bad = false ∧ p ≠ l.length ∧ endOf rest f = 4) := by
  obtain ⟨hp, _, ⟨rfl, rfl, rfl⟩ | ⟨rfl, rfl, rfl⟩⟩ := h
  · right
    by_cases he : p = l.length
    · left
      refine ⟨rfl, he, ?_⟩
      subst he
      simp [endOf]
    · right
      refine ⟨rfl, he, ?_⟩
      have : ¬ l.length ≤ p := by omega
      simp [endOf, this]
  · exact .inl ⟨rfl, by simp [endOf]⟩

set_option maxHeartbeats 2000000 in
set_option maxRecDepth 100000 in
theorem packReads_walk (l : List UInt8) (A : Option Addr) (n cap : Nat) (ns : List Int) (bd : Int) (w : World) (hl : l.length ≤ 1024) (hr : Nums w A n ns) (hn : n ≤ 40) :
    Calls Try.prog 4 #[.string ⟨l.toArray⟩, .slice A n cap, .int .i64 bd] w fun e w' => e = .returned (.bool true) ∧ Below w.heap.size w w' := by
  have g0 : decide ((1024 : Int) < l.length) = false := by simp; omega
  have g1 : decide ((40 : Int) < n) = false := by simp; omega
  go_enter Try.func4, Try.ntmps4
  go_wp2_with fail
  refine (alive_any _).mono ?_
  rintro e w1 ⟨rfl, hbel⟩
  go_wp2_with fail
  refine (open_any l w1).mono ?_
  rintro e w2 ⟨rfl, hrd, hg2⟩
  have hbr : w.heap.size ≤ w1.heap.size := hbel.size
  have hbr2 := hrd.lt
  have hbel2 : Below w.heap.size w w2 := hbel.grown hg2 hbr (by simp)
  go_wp2_with fail
  have hrd3 : Rd (w2.alloc (.cells #[.string ⟨l.toArray⟩, .int .i64 0, .bool false] 42)) w1.heap.size l false := At.alloc hrd _
  have hrf3 : Rf (w2.alloc (.cells #[.string ⟨l.toArray⟩, .int .i64 0, .bool false] 42)) w2.heap.size l 0 false := At.fresh _ _ _
  have hbel3 := hbel2.alloc hbel2.size (.cells #[.string ⟨l.toArray⟩, .int .i64 0, .bool false] 42)
  have hm : w.heap.size ≤ w2.heap.size := hbel2.size
  clear hbel hbel2 hg2 hrd
  generalize w2.alloc (.cells #[.string ⟨l.toArray⟩, .int .i64 0, .bool false] 42) = w3 at *
  generalize w2.heap.size = m at *
  generalize w1.heap.size = br at *
  go_loopw [34] (fun i wr => ∃ (k : Nat) (rest : List UInt8) (f : Bool) (p : Nat) (bad : Bool), k ≤ n ∧ i = .int .i64 k ∧ Same l rest f p bad ∧ Rd wr br rest f ∧ Rf wr m l p bad ∧ Below w.heap.size w wr) (fun i _ => n - (intOf i).toNat)
  case atStart => exact ⟨0, l, false, 0, false, by omega, rfl, ⟨by omega, by omega, .inl ⟨rfl, rfl, rfl⟩⟩, hrd3, hrf3, hbel3⟩
  case round =>
    clear hrd3 hrf3 hbel3
    obtain ⟨k, rest, f, p, bad, hk, rfl, hs, hrd, hrf, hbl⟩ := hrel
    by_cases hlt : k < n
    · obtain ⟨c, off, rfl, hc, hx⟩ := nums_at hr hbl hlt
      obtain ⟨x, hxe⟩ : ∃ x, ns.getD k 0 = x := ⟨_, rfl⟩
      rw [hxe] at hx
      clear hxe
      by_cases x0 : x = 0
      · have t0 : (x == 0) = true := by simpa using x0
        clear x0
        obtain ⟨v, rest', f', p', bad', hs', hC, hD⟩ := int_pair br m l rest f p bad hs
        have HC := Lib.hid hC
        have HD := Lib.hid hD
        clear hC hD hs
        go_wp2_with fail
        refine (HC.out _ hrd).mono ?_
        rintro e w4 ⟨rfl, hrd4, hg4⟩
        have hrf4 : Rf w4 m l p bad := At.grown hrf hg4 (by simp; omega)
        have hbl4 := hbl.grown hg4 hbl.size (by intro q hq; simp at hq; omega)
        clear hg4 hrd hrf
        go_wp2_with fail
        refine (HD.out _ hrf4).mono ?_
        rintro e w5 ⟨rfl, hrf5, hg5⟩
        have hrd5 : Rd w5 br rest' f' := At.grown hrd4 hg5 (by simp; omega)
        have hbl5 := hbl4.grown hg5 hbl4.size (by intro q hq; simp at hq; omega)
        clear hg5 hrd4 hrf4 HC HD
        have ec1 : w5.cell? ⟨m, 1, none⟩ = some (.int .i64 p') := At.cell hrf5 1
        have ec2 : w5.cell? ⟨m, 2, none⟩ = some (.bool bad') := At.cell hrf5 2
        rcases hs'.ways with ⟨hb, hE⟩ | ⟨hb, hp', hE⟩ | ⟨hb, hp', hE⟩
        · rw [hb] at ec2
          have HE := Lib.hid hE
          clear hb hE
          go_wp2_with fail
          refine (end_any br _ _ _ hrd5).mono ?_
          rintro e w6 ⟨rfl, rfl⟩
          rw [HE.out]
          go_wp2_with fail
          refine (end_any br _ _ _ hrd5).mono ?_
          rintro e w6 ⟨rfl, rfl⟩
          rw [HE.out]
          go_wp2_with fail
          exact ⟨⟨k + 1, rest', f', p', bad', by omega, by go_num, hs', hrd5, hrf5, hbl5⟩, by simp [intOf]; omega⟩
        · rw [hb] at ec2
          have tp : ((p' : Int) == (l.length : Int)) = true := by simp; omega
          have HE := Lib.hid hE
          clear hb hE hp'
          go_wp2_with fail
          refine (end_any br _ _ _ hrd5).mono ?_
          rintro e w6 ⟨rfl, rfl⟩
          rw [HE.out]
          go_wp2_with fail
          exact ⟨⟨k + 1, rest', f', p', bad', by omega, by go_num, hs', hrd5, hrf5, hbl5⟩, by simp [intOf]; omega⟩
        · rw [hb] at ec2
          have tp : ((p' : Int) == (l.length : Int)) = false := by simp; omega
          have HE := Lib.hid hE
          clear hb hE hp'
          go_wp2_with fail
          refine (end_any br _ _ _ hrd5).mono ?_
          rintro e w6 ⟨rfl, rfl⟩
          rw [HE.out]
          go_wp2_with fail
          refine (end_any br _ _ _ hrd5).mono ?_
          rintro e w6 ⟨rfl, rfl⟩
          rw [HE.out]
          go_wp2_with fail
          exact ⟨⟨k + 1, rest', f', p', bad', by omega, by go_num, hs', hrd5, hrf5, hbl5⟩, by simp [intOf]; omega⟩
      have t0 : (x == 0) = false := by simpa using x0
      clear x0
      by_cases x1 : x = 1
      · have t1 : (x == 1) = true := by simpa using x1
        clear x1
        obtain ⟨v, rest', f', p', bad', ⟨hs', hC, hD⟩, hbe⟩ := str_pair br m l rest f p bad hs
        have HBE := Lib.hid hbe
        clear hbe
        have HC := Lib.hid hC
        have HD := Lib.hid hD
        clear hC hD hs
        go_wp2_with fail
        refine (HC.out _ hrd).mono ?_
        rintro e w4 ⟨rfl, hrd4, hg4⟩
        have hrf4 : Rf w4 m l p bad := At.grown hrf hg4 (by simp; omega)
        have hbl4 := hbl.grown hg4 hbl.size (by intro q hq; simp at hq; omega)
        clear hg4 hrd hrf
        go_wp2_with fail
        refine (HD.out _ hrf4).mono ?_
        rintro e w5 ⟨rfl, hrf5, hg5⟩
        have hrd5 : Rd w5 br rest' f' := At.grown hrd4 hg5 (by simp; omega)
        have hbl5 := hbl4.grown hg5 hbl4.size (by intro q hq; simp at hq; omega)
        clear hg5 hrd4 hrf4 HC HD
        have ec1 : w5.cell? ⟨m, 1, none⟩ = some (.int .i64 p') := At.cell hrf5 1
        have ec2 : w5.cell? ⟨m, 2, none⟩ = some (.bool bad') := At.cell hrf5 2
        rcases hs'.ways with ⟨hb, hE⟩ | ⟨hb, hp', hE⟩ | ⟨hb, hp', hE⟩
        · rw [hb] at ec2
          obtain rfl := HBE.out hb
          have HE := Lib.hid hE
          clear hb hE
          go_wp2_with fail
          refine (end_any br _ _ _ hrd5).mono ?_
          rintro e w6 ⟨rfl, rfl⟩
          rw [HE.out]
          go_wp2_with fail
          refine (end_any br _ _ _ hrd5).mono ?_
          rintro e w6 ⟨rfl, rfl⟩
          rw [HE.out]
          go_wp2_with fail
          exact ⟨⟨k + 1, rest', f', p', bad', by omega, by go_num, hs', hrd5, hrf5, hbl5⟩, by simp [intOf]; omega⟩
        · rw [hb] at ec2
          have tp : ((p' : Int) == (l.length : Int)) = true := by simp; omega
          have HE := Lib.hid hE
          clear hb hE hp'
          go_wp2_with fail
          refine (end_any br _ _ _ hrd5).mono ?_
          rintro e w6 ⟨rfl, rfl⟩
          rw [HE.out]
          go_wp2_with fail
          exact ⟨⟨k + 1, rest', f', p', bad', by omega, by go_num, hs', hrd5, hrf5, hbl5⟩, by simp [intOf]; omega⟩
        · rw [hb] at ec2
          have tp : ((p' : Int) == (l.length : Int)) = false := by simp; omega
          have HE := Lib.hid hE
          clear hb hE hp'
          go_wp2_with fail
          refine (end_any br _ _ _ hrd5).mono ?_
          rintro e w6 ⟨rfl, rfl⟩
          rw [HE.out]
          go_wp2_with fail
          refine (end_any br _ _ _ hrd5).mono ?_
          rintro e w6 ⟨rfl, rfl⟩
          rw [HE.out]
          go_wp2_with fail
          exact ⟨⟨k + 1, rest', f', p', bad', by omega, by go_num, hs', hrd5, hrf5, hbl5⟩, by simp [intOf]; omega⟩
      have t1 : (x == 1) = false := by simpa using x1
      clear x1
      by_cases x2 : x = 2
      · have t2 : (x == 2) = true := by simpa using x2
        clear x2
        obtain ⟨v, rest', f', p', bad', hs', hC, hD⟩ := bool_pair br m l rest f p bad hs
        have HC := Lib.hid hC
        have HD := Lib.hid hD
        clear hC hD hs
        go_wp2_with fail
        refine (HC.out _ hrd).mono ?_
        rintro e w4 ⟨rfl, hrd4, hg4⟩
        have hrf4 : Rf w4 m l p bad := At.grown hrf hg4 (by simp; omega)
        have hbl4 := hbl.grown hg4 hbl.size (by intro q hq; simp at hq; omega)
        clear hg4 hrd hrf
        go_wp2_with fail
        refine (HD.out _ hrf4).mono ?_
        rintro e w5 ⟨rfl, hrf5, hg5⟩
        have hrd5 : Rd w5 br rest' f' := At.grown hrd4 hg5 (by simp; omega)
        have hbl5 := hbl4.grown hg5 hbl4.size (by intro q hq; simp at hq; omega)
        clear hg5 hrd4 hrf4 HC HD
        have ec1 : w5.cell? ⟨m, 1, none⟩ = some (.int .i64 p') := At.cell hrf5 1
        have ec2 : w5.cell? ⟨m, 2, none⟩ = some (.bool bad') := At.cell hrf5 2
        rcases hs'.ways with ⟨hb, hE⟩ | ⟨hb, hp', hE⟩ | ⟨hb, hp', hE⟩
        · rw [hb] at ec2
          have HE := Lib.hid hE
          clear hb hE
          go_wp2_with fail
          refine (end_any br _ _ _ hrd5).mono ?_
          rintro e w6 ⟨rfl, rfl⟩
          rw [HE.out]
          go_wp2_with fail
          refine (end_any br _ _ _ hrd5).mono ?_
          rintro e w6 ⟨rfl, rfl⟩
          rw [HE.out]
          go_wp2_with fail
          exact ⟨⟨k + 1, rest', f', p', bad', by omega, by go_num, hs', hrd5, hrf5, hbl5⟩, by simp [intOf]; omega⟩
        · rw [hb] at ec2
          have tp : ((p' : Int) == (l.length : Int)) = true := by simp; omega
          have HE := Lib.hid hE
          clear hb hE hp'
          go_wp2_with fail
          refine (end_any br _ _ _ hrd5).mono ?_
          rintro e w6 ⟨rfl, rfl⟩
          rw [HE.out]
          go_wp2_with fail
          exact ⟨⟨k + 1, rest', f', p', bad', by omega, by go_num, hs', hrd5, hrf5, hbl5⟩, by simp [intOf]; omega⟩
        · rw [hb] at ec2
          have tp : ((p' : Int) == (l.length : Int)) = false := by simp; omega
          have HE := Lib.hid hE
          clear hb hE hp'
          go_wp2_with fail
          refine (end_any br _ _ _ hrd5).mono ?_
          rintro e w6 ⟨rfl, rfl⟩
          rw [HE.out]
          go_wp2_with fail
          refine (end_any br _ _ _ hrd5).mono ?_
          rintro e w6 ⟨rfl, rfl⟩
          rw [HE.out]
          go_wp2_with fail
          exact ⟨⟨k + 1, rest', f', p', bad', by omega, by go_num, hs', hrd5, hrf5, hbl5⟩, by simp [intOf]; omega⟩
      · have t2 : (x == 2) = false := by simpa using x2
        clear x2
        obtain ⟨v, rest', f', p', bad', hs', hC, hD⟩ := many_pair br m bd l rest f p bad hs
        have HC := Lib.hid hC
        have HD := Lib.hid hD
        clear hC hD hs
        go_wp2_with fail
        refine (HC.out _ hrd).mono ?_
        rintro e w4 ⟨rfl, hrd4, hg4⟩
        have hrf4 : Rf w4 m l p bad := At.grown hrf hg4 (by simp; omega)
        have hbl4 := hbl.grown hg4 hbl.size (by intro q hq; simp at hq; omega)
        clear hg4 hrd hrf
        go_wp2_with fail
        refine (HD.out _ hrf4).mono ?_
        rintro e w5 ⟨rfl, hrf5, hg5⟩
        have hrd5 : Rd w5 br rest' f' := At.grown hrd4 hg5 (by simp; omega)
        have hbl5 := hbl4.grown hg5 hbl4.size (by intro q hq; simp at hq; omega)
        clear hg5 hrd4 hrf4 HC HD
        have ec1 : w5.cell? ⟨m, 1, none⟩ = some (.int .i64 p') := At.cell hrf5 1
        have ec2 : w5.cell? ⟨m, 2, none⟩ = some (.bool bad') := At.cell hrf5 2
        rcases hs'.ways with ⟨hb, hE⟩ | ⟨hb, hp', hE⟩ | ⟨hb, hp', hE⟩
        · rw [hb] at ec2
          have HE := Lib.hid hE
          clear hb hE
          go_wp2_with fail
          refine (end_any br _ _ _ hrd5).mono ?_
          rintro e w6 ⟨rfl, rfl⟩
          rw [HE.out]
          go_wp2_with fail
          refine (end_any br _ _ _ hrd5).mono ?_
          rintro e w6 ⟨rfl, rfl⟩
          rw [HE.out]
          go_wp2_with fail
          exact ⟨⟨k + 1, rest', f', p', bad', by omega, by go_num, hs', hrd5, hrf5, hbl5⟩, by simp [intOf]; omega⟩
        · rw [hb] at ec2
          have tp : ((p' : Int) == (l.length : Int)) = true := by simp; omega
          have HE := Lib.hid hE
          clear hb hE hp'
          go_wp2_with fail
          refine (end_any br _ _ _ hrd5).mono ?_
          rintro e w6 ⟨rfl, rfl⟩
          rw [HE.out]
          go_wp2_with fail
          exact ⟨⟨k + 1, rest', f', p', bad', by omega, by go_num, hs', hrd5, hrf5, hbl5⟩, by simp [intOf]; omega⟩
        · rw [hb] at ec2
          have tp : ((p' : Int) == (l.length : Int)) = false := by simp; omega
          have HE := Lib.hid hE
          clear hb hE hp'
          go_wp2_with fail
          refine (end_any br _ _ _ hrd5).mono ?_
          rintro e w6 ⟨rfl, rfl⟩
          rw [HE.out]
          go_wp2_with fail
          refine (end_any br _ _ _ hrd5).mono ?_
          rintro e w6 ⟨rfl, rfl⟩
          rw [HE.out]
          go_wp2_with fail
          exact ⟨⟨k + 1, rest', f', p', bad', by omega, by go_num, hs', hrd5, hrf5, hbl5⟩, by simp [intOf]; omega⟩
    · clear hs hrd hrf
      go_wp2_with fail
      refine (rint_nil _).mono ?_
      rintro e w6 ⟨rfl, rfl⟩
      go_wp2_with fail
      refine (rstr_nil _).mono ?_
      rintro e w6 ⟨rfl, rfl⟩
      go_wp2_with fail
      refine (rbool_nil _).mono ?_
      rintro e w6 ⟨rfl, rfl⟩
      go_wp2_with fail
      refine (rmany_nil 9 _).mono ?_
      rintro e w6 ⟨rfl, rfl⟩
      go_wp2_with fail
      refine (end_nil _).mono ?_
      rintro e w6 ⟨rfl, rfl⟩
      go_wp2_with fail
      go_ret
      exact ⟨rfl, hbl⟩

set_option maxHeartbeats 400000 in
theorem packReads_main (l : List UInt8) (A : Option Addr) (n cap : Nat) (ns : List Int) (bd : Int) (w : World) (hl : l.length ≤ maxLen) (hr : Nums w A n ns) (_ : ∀ m ∈ ns, I64 m) (_ : n ≤ maxLen) (_ : I64 bd) :
    Calls Try.prog 4 #[.string ⟨l.toArray⟩, .slice A n cap, .int .i64 bd] w fun e w' => e = .returned (.bool true) ∧ Below w.heap.size w w' := by
  by_cases h0 : l.length ≤ 1024
  · by_cases h1 : n ≤ 40
    · exact packReads_walk l A n cap ns bd w h0 hr h1
    · have g0 : decide ((1024 : Int) < l.length) = false := by simp; omega
      have g1 : decide ((40 : Int) < n) = true := by simp; omega
      clear hr
      go_enter Try.func4, Try.ntmps4
      go_wp2_with fail
      refine (alive_any _).mono ?_
      rintro e w1 ⟨rfl, hbel⟩
      go_wp2_with fail
      go_ret
      exact ⟨rfl, hbel⟩
  · unfold maxLen at hl
    have g0 : decide ((1024 : Int) < l.length) = true := by simp; omega
    clear hr
    go_enter Try.func4, Try.ntmps4
    go_wp2_with fail
    refine (alive_any _).mono ?_
    rintro e w1 ⟨rfl, hbel⟩
    go_wp2_with fail
    go_ret
    exact ⟨rfl, hbel⟩
end Go.Proofs.Ytlheijpfmihhaaa
