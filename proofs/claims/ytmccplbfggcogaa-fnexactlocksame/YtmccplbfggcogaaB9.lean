/-
  Chapter 9 of the specification by its contracts: when it is blank.
-/
import Derived.Test.YtmccplbfggcogaaS2
namespace Go.Proofs.Ytmccplbfggcogaa
set_option linter.unusedVariables false
set_option linter.unusedSimpArgs false
open Go.ChangeShapes Go.WideShapes Go.ChangeAt Go.RowKit
def in9 (a b rest by' : Int) : Bool := decide (max a 0 + (rest - max a 0) % by' < min b 20000)
def next9 (t : Int) : Int := min (max t 0) 20000 + (48 - min (max t 0) 20000) % 64
end Go.Proofs.Ytmccplbfggcogaa
