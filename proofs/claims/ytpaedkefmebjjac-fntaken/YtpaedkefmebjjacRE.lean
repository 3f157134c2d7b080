/-
  Chapter 13 of the specification by its contracts: RingNew, RingHead, RingPut, RingTake.
-/
import Derived.Test.YtpaedkefmebjjacRD
import Derived.Deep.DeepCutAuto
namespace Go.Proofs.Ytpaedkefmebjjac
set_option linter.unusedVariables false
set_option linter.unusedSimpArgs false
open Go.ChangeShapes Go.WideShapes Go.ChangeAt Go.RowKit Go.Sort
theorem RgOn.none0 {W : World} {D : Nat → Prop} (cap : Int) (f : Nat → Int) : RgOn W D (.agg #[.int .i64 cap, .slice none 0 0]) cap 0 f := ⟨_, rfl, RsOn.none0 f⟩
def headV (ok : Bool) (n : Nat) (f : Nat → Int) (j : Nat) : Int := if ok = true ∧ 0 < n then f j else 0
end Go.Proofs.Ytpaedkefmebjjac
