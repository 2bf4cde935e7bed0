/- strconv's readFloat: its code, cut: the digits' loop and what stands behind it. -/
import Derived.Test.YtkaeaiagmihmgaaGreatDoorQFyL
import Derived.Test.YtkaeaiagmihmgaaGreatDoorRows
import Derived.Test.YtkaeaiagmihmgaaGreatDoorQShelf
import Derived.WalkKit
import Derived.WalkSpells
import Derived.WalkLawsBesides
import Derived.Lib.Hide
import Derived.Deep.LoopGhost
import Derived.Deep.DeepCutAuto
import Derived.Deep.CutBlock
import Derived.WalkMore
import Derived.Laws.BitsAllLaws
namespace Go.Proofs.YtkaeaiagmihmgaaGreatDoor
open Go.RowKit

def RfBad (e : Ending) : Prop := ∃ (m i : Int) (ex : Int) (neg tr hex : Bool), e = .returned (.tuple #[.int .u64 m, .int .i64 ex, .bool neg, .bool tr, .bool hex, .int .i64 i, .bool false])
def RfPost (s : List UInt8) (e : Ending) : Prop :=
  (rfM s = none ∧ RfBad e) ∨ ∃ (o : RfOut) (ok : Bool), rfM s = some o ∧ (o.us = false → ok = true) ∧ e = .returned (.tuple #[.int .u64 o.m, .int .i64 o.ex, .bool o.neg, .bool o.tr, .bool o.hex, .int .i64 o.i, .bool ok])
theorem lower_nat (c : Nat) (h : c < 256) : bits .or .u8 (c : Int) 32 = ((low5 c : Nat) : Int) := u8_or_nat c 32 h (by decide)

def tailN : Nat → Code → Code
  | 0, c => c
  | n + 1, .seq _ b => tailN n b
  | _, c => c
def headC : Code → Code
  | .seq a _ => a
  | c => c
def unscope : Code → Code
  | .scope c => c
  | c => c
noncomputable def rfCode : Code := unscope (tailN 1 ((Tryz.f127.body).getD .skip))
noncomputable def rfLoop : Code := headC (tailN 13 rfCode)
noncomputable def rfRest : Code := tailN 14 rfCode
end Go.Proofs.YtkaeaiagmihmgaaGreatDoor
