/-
  The laws' own comparisons of rows and of banks.
-/
import Derived.Test.YtndhhgnojeaaiagS2
namespace Go.Proofs.Ytndhhgnojeaaiag
open Go.ChangeShapes Go.WideShapes Go.ChangeAt Go.RowKit
end Go.Proofs.Ytndhhgnojeaaiag
