/-
  The laws' own comparisons of rows and of banks.
-/
import Derived.Test.YtbdbhidlfbfigagS2
namespace Go.Proofs.Ytbdbhidlfbfigag
open Go.ChangeShapes Go.WideShapes Go.ChangeAt Go.RowKit
end Go.Proofs.Ytbdbhidlfbfigag
