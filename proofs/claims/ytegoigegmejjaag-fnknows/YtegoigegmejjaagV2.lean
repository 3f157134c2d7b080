/-
  The laws' own comparisons of rows and of banks.
-/
import Derived.Test.YtegoigegmejjaagS2
namespace Go.Proofs.Ytegoigegmejjaag
open Go.ChangeShapes Go.WideShapes Go.ChangeAt Go.RowKit
end Go.Proofs.Ytegoigegmejjaag
