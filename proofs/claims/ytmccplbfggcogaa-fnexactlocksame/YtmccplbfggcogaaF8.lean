/-
  Chapter 8 of the specification by its contracts: registers.
-/
import Derived.Test.YtmccplbfggcogaaE8
namespace Go.Proofs.Ytmccplbfggcogaa
set_option linter.unusedVariables false
open Go.ChangeShapes Go.WideShapes Go.ChangeAt Go.RowKit
def wrC (ok : Bool) (reg v c : Int) : Int := if ok = true ∧ reg = 0 then v % 256 else c
def wrS (ok : Bool) (reg v s : Int) : Int := if ok = true ∧ reg = 1 then v % 256 else s
def wrA (ok : Bool) (reg v ad : Int) : Int := if ok = true ∧ reg = 3 then v % 256 % 16 else if ok = true ∧ reg = 4 then (ad + 1) % 16 else ad
def wrP (ok : Bool) (reg v pl : Int) : Int := if ok = true ∧ reg = 5 then v % 256 % 64 else pl
def wrT (ok : Bool) (reg v ad : Int) (f : Nat → Int) : Nat → Int := if ok = true ∧ reg = 4 then (fun i => if i = ad.toNat then v % 256 % 64 else f i) else f
end Go.Proofs.Ytmccplbfggcogaa
