/- A row's step for a card, the world's shape kept: a variable of the library of which nothing is listed holds some number. -/
import Derived.Test.YtkaeaiagmihmgaaGreatDoorQGaT
import Derived.Test.YtkaeaiagmihmgaaGreatDoorQValC
import Derived.Shelf.Vars
import Derived.Handed
import Derived.OpenShut
import Derived.ChangeArms
namespace Go.Proofs.YtkaeaiagmihmgaaGreatDoor
open Go.RowKit

/-- A contract that may lean on the first world's shape and on what is listed gives the row's step. -/
theorem card_shaped {H : Type} {enc : TypeId × Value → H} {C : Checked} {os : Os} {f : FuncId} {fn : Func} {s : ChangeSpec} {X : World → Array Value → Prop}
    (hX : ∀ (w w' : World) (args : Array Value), w.heap = w'.heap → X w args → X w' args)
    (own : ownKnob C.prog.godebug = none) (started : os.Started) (noInit : C.prog.inits.idxOf? f = none) (hfn : C.prog.funcs[f]? = some fn)
    (hwit : ∃ (w : World) (tape : Tape) (i : Input), w.os = os ∧ (w.forCall tape i).Shaped C.prog ∧ i.vars = [] ∧ Input.okWide C.prog (w.forCall tape i) .any w.heap.size f i ∧
      ((s.pre enc C.prog fn [] false (w.forCall tape i).memory i.args ∧ X (w.forCall tape i).memory i.args) ∧ sizedMet enc C.prog fn (OpenSpec.ofChange s) false (w.forCall tape i).memory i.args) ∧ Assume.holds {} C.prog (lone (Frame.enter C.prog f i.args .normal) [] (w.forCall tape i)))
    (hcon : ∀ (W : World) (base : Nat) (args : Array Value) (ds gs : List (DataW H)) (before : List MemPlace),
      (∀ (j : Nat) t v, fn.params[j]? = some t → args[j]? = some v → Value.okWide C.prog W .any base t v) → DataW.Whole enc C.prog fn.params.toList s.vars false W args.toList ds gs before → True → True → W.ShapedOpen C.prog → X W args → True →
      Calls C.prog f args W fun e W' => ∃ v, e = .returned v ∧ s.post enc C.prog fn false true false false W args v W') :
    ReturnsInHanded {} C os f .any (fun w args => (s.pre enc C.prog fn [] false w args ∧ X w args) ∧ sizedMet enc C.prog fn (OpenSpec.ofChange s) false w args) (s.post enc C.prog fn false true false false) := by
  refine returnsInHanded_of_calls own started noInit hwit fun w tape i _ shape _ wide pre _ => ?_
  obtain ⟨_, _, _, fn2, hfn2, _, _, _, _, vals⟩ := wide
  obtain rfl : fn2 = fn := Option.some.inj (hfn2.symm.trans hfn)
  obtain ⟨⟨⟨ds, gs, before, whole, _⟩, x⟩, _⟩ := pre
  refine (hcon _ _ _ ds gs before vals (DataW.Whole.of_heap (by rfl) whole) trivial trivial shape (hX _ _ _ (by rfl) x) trivial).mono ?_
  rintro e W2 ⟨v, rfl, p⟩
  exact ChangeSpec.post_blind p

theorem lens_of_shaped {W : World} (hS : W.ShapedOpen Tryz.prog) : Lens W :=
  cell_of_shapedOpen_int hS (t := 3) (zero := #[.int .i64 0]) (of_decide_eq_true (by kernel_rfl)) (by kernel_rfl) rfl (by kernel_rfl) (by kernel_rfl) (by kernel_rfl)
theorem tabs_of_shaped {W : World} (hL : laidMet Tryz.prog ROW W) (hS : W.ShapedOpen Tryz.prog) : Tb W := ⟨halfTabs_of_laid hL, lens_of_shaped hS⟩
end Go.Proofs.YtkaeaiagmihmgaaGreatDoor
